/-
  Blanks between tokens change none; quotes, words and names are one token each. Pure. No condition.
-/
import Derived.Test.YtlmhofjiobmodaaGreatDoorQ42
import Derived.Test.YtlmhofjiobmodaaGreatDoorQ08
import Derived.Test.YtlmhofjiobmodaaGreatDoorQ44
import Derived.Test.YtlmhofjiobmodaaGreatDoorQ09
namespace Go.Proofs.YtlmhofjiobmodaaGreatDoor
open Go.RowKit Go.Lib



/-- What stands behind a piece. -/
def sepB (i : Nat) : By := if i % 2 = 0 then [10] else [10, 32]
/-- The pieces from token to token, with blanks behind each. -/
def spr (s : By) : Nat → List Tk → By
  | _, [] => []
  | i, a :: L => match L with
    | [] => []
    | b :: _ => cutB s a.p.toNat b.p.toNat ++ sepB i ++ spr s (i + 1) L
theorem spr_cons (s : By) (i : Nat) (a b : Tk) (L : List Tk) : spr s i (a :: b :: L) = cutB s a.p.toNat b.p.toNat ++ sepB i ++ spr s (i + 1) (b :: L) := by rw [spr]
theorem tw_app (p : UInt8 → Bool) (r u : By) (hu : ∀ c v, u = c :: v → p c ≠ true) : (r.take (r.takeWhile p).length ++ u).takeWhile p = r.takeWhile p := by
  rw [← tw_take]
  obtain ⟨h1, _⟩ := tw_spec p r
  rw [List.takeWhile_append_of_pos h1]
  cases u with
  | nil => simp
  | cons c v => rw [List.takeWhile_cons, if_neg (hu c v rfl), List.append_nil]
theorem txL_app (acc r : By) : ∀ m n, txL acc r = some (m, n) → ∀ u, txL acc (r.take n ++ u) = some (m, n) := by
  fun_induction txL acc r with
  | case1 => intro m n h; cases h
  | case2 acc t ha =>
    intro m n h u
    obtain ⟨rfl, rfl⟩ := Prod.mk.inj (Option.some.inj h)
    show txL acc (34 :: u) = _
    rw [txL.eq_def]
    simp only
    rw [if_pos trivial, if_pos ha]
  | case3 => intro m n h; cases h
  | case4 => intro m n h; cases h
  | case5 acc d u h3 h1 h2 ih =>
    intro m n h v
    cases hx : txL (acc ++ [d]) u with
    | none => rw [hx] at h; cases h
    | some p =>
      rw [hx] at h
      obtain ⟨rfl, rfl⟩ := Prod.mk.inj (Option.some.inj h)
      have := ih p.1 p.2 hx v
      show txL acc (92 :: d :: (u.take p.2 ++ v)) = _
      rw [txL.eq_def]
      simp only
      rw [if_neg (by decide), if_pos (by decide), if_pos trivial, if_pos h3, this]
      rfl
  | case6 => intro m n h; cases h
  | case7 acc c t h1 h2 h3 ih =>
    intro m n h v
    cases hx : txL (acc ++ [c]) t with
    | none => rw [hx] at h; cases h
    | some p =>
      rw [hx] at h
      obtain ⟨rfl, rfl⟩ := Prod.mk.inj (Option.some.inj h)
      have := ih p.1 p.2 hx v
      show txL acc (c :: (t.take p.2 ++ v)) = _
      rw [txL.eq_def]
      simp only
      rw [if_neg h1, if_pos h2, if_neg h3, this]
      rfl
  | case8 => intro m n h; cases h
/-- A token hangs on its own bytes, if no run goes on behind it. -/
theorem one_app {r : By} {x : Tk} {n : Nat} (h : oneL r = .ok (x, n)) (u : By) (hu : ∀ c v, u = c :: v → c = 10 ∨ ∃ hn : n < r.length, r[n] = c) : oneL (r.take n ++ u) = .ok (x, n) := by
  obtain ⟨n1, n2⟩ := one_len h
  cases r with
  | nil => cases h
  | cons c t =>
    have hr : ∀ k : Int, (endT k ((c :: t).takeWhile fun b => goB k (bI b))).map (fun z => (z, ((c :: t).takeWhile fun b => goB k (bI b)).length)) = .ok (x, n) → (endT k ((c :: (t.take (n - 1) ++ u)).takeWhile fun b => goB k (bI b))).map (fun z => (z, ((c :: (t.take (n - 1) ++ u)).takeWhile fun b => goB k (bI b)).length)) = .ok (x, n) := fun k hk => by
      obtain ⟨z, hz1, hz⟩ := map_ok hk
      obtain ⟨rfl, hn⟩ := Prod.mk.inj hz
      have e : c :: (t.take (n - 1) ++ u) = (c :: t).take n ++ u := by
        rw [← List.cons_append, ← List.take_succ_cons, Nat.sub_add_cancel n1]
      have e2 : ((c :: t).take n ++ u).takeWhile (fun b => goB k (bI b)) = (c :: t).takeWhile fun b => goB k (bI b) := by
        rw [← hn]
        refine tw_app _ _ _ (fun d v hd => ?_)
        rcases hu d v hd with rfl | ⟨hl, he⟩
        · exact fun e => (not_blank e).2 rfl
        · have := (tw_spec (fun b => goB k (bI b)) (c :: t)).2 (by rw [hn]; exact hl)
          simp only [hn] at this
          rw [he] at this
          exact this
      rw [e, e2]
      exact hk
    have e : (c :: t).take n ++ u = c :: (t.take (n - 1) ++ u) := by
      rw [← List.cons_append, ← List.take_succ_cons, Nat.sub_add_cancel n1]
    rw [e]
    rw [oneL] at h ⊢
    by_cases h2 : smB (bI c) = true
    · rw [if_pos h2] at h ⊢
      exact hr 2 h
    · rw [if_neg h2] at h ⊢
      by_cases h3 : grB (bI c) = true
      · rw [if_pos h3] at h ⊢
        exact hr 3 h
      · rw [if_neg h3] at h ⊢
        by_cases h4 : dgB (bI c) = true
        · rw [if_pos h4] at h ⊢
          exact hr 4 h
        · rw [if_neg h4] at h ⊢
          by_cases h34 : c = 34
          · rw [if_pos h34] at h ⊢
            cases hx : txL [] t with
            | none => rw [hx] at h; cases h
            | some p =>
              obtain ⟨m, l⟩ := p
              rw [hx] at h
              obtain ⟨rfl, rfl⟩ := Prod.mk.inj (Except.ok.inj h)
              rw [Nat.add_sub_cancel, txL_app _ _ _ _ hx]
          · rw [if_neg h34] at h ⊢
            by_cases h7 : sgB (bI c) = true
            · rw [if_pos h7] at h ⊢
              exact h
            · rw [if_neg h7] at h
              cases h
theorem cut_cons (s : By) {a j : Nat} (ha : a < s.length) (hj : a < j) : cutB s a j = s[a] :: cutB s (a + 1) j := by
  unfold cutB
  rw [List.drop_eq_getElem_cons (by simp; omega), List.getElem_take]
theorem cut_split (s : By) {a b c : Nat} (h1 : a ≤ b) (h2 : b ≤ c) : cutB s a c = (s.drop a).take (b - a) ++ cutB s b c := by
  unfold cutB
  rw [List.drop_take, List.drop_take]
  have := List.take_append_drop (b - a) ((s.drop a).take (c - a))
  rw [← this, List.take_take, Nat.min_eq_left (by omega), List.drop_take, List.drop_drop]
  congr 2
  · omega
  · congr 1
    omega
theorem ten_go (rm : Bool) (o : Nat) (R : By) : toks rm o (10 :: R) = toks false (o + 1) R := by
  rw [toks.eq_def]
  simp only
  cases rm
  · rw [if_neg (by decide), if_pos (by decide)]
  · rw [if_pos rfl, if_pos trivial]
theorem map_ok2 {α β : Type} {f : α → β} {r : Except (Int × Int) α} {y : β} (h : r.map f = .ok y) : ∃ z, r = .ok z ∧ f z = y := by
  cases r with
  | error e => cases h
  | ok z => exact ⟨z, rfl, Except.ok.inj h⟩
/-- How tokens go on from a place. -/
theorem toks_cases {s : By} {rm : Bool} {a : Nat} {L : List Tk} (ha : a ≤ s.length) (h : toks rm a (s.drop a) = .ok L) :
    (a = s.length ∧ L = [⟨8, [], 0, 0, 0, a⟩]) ∨
    (∃ ha : a < s.length, (∃ rm', toks rm' (a + 1) (s.drop (a + 1)) = .ok L ∧ ∀ o X, toks rm o (s[a] :: X) = toks rm' (o + 1) X)) ∨
    (rm = false ∧ ∃ ha : a < s.length, blB (bI s[a]) ≠ true ∧ s[a] ≠ 35 ∧ ∃ x n L', oneL (s.drop a) = .ok (x, n) ∧ 1 ≤ n ∧ a + n ≤ s.length ∧ L = { x with p := a } :: L' ∧ toks false (a + n) (s.drop (a + n)) = .ok L') := by
  rcases Nat.lt_or_ge a s.length with h' | h'
  · refine .inr ?_
    rw [List.drop_eq_getElem_cons h', toks.eq_def] at h
    simp only at h
    cases rm with
    | true =>
      rw [if_pos rfl] at h
      by_cases h10 : s[a] = 10
      · rw [if_pos h10] at h
        exact .inl ⟨h', false, h, fun o X => by rw [h10]; exact ten_go true o X⟩
      · rw [if_neg h10] at h
        refine .inl ⟨h', true, h, fun o X => ?_⟩
        rw [toks.eq_def]
        simp only
        rw [if_pos trivial, if_neg h10]
    | false =>
      rw [if_neg (by decide)] at h
      by_cases hb : blB (bI s[a]) = true
      · rw [if_pos hb] at h
        refine .inl ⟨h', false, h, fun o X => ?_⟩
        rw [toks.eq_def]
        simp only
        rw [if_neg (by decide), if_pos hb]
      · rw [if_neg hb] at h
        by_cases h5 : s[a] = 35
        · rw [if_pos h5] at h
          refine .inl ⟨h', true, h, fun o X => ?_⟩
          rw [toks.eq_def]
          simp only
          rw [if_neg (by decide), if_neg hb, if_pos h5]
        · rw [if_neg h5] at h
          refine .inr ⟨rfl, h', hb, h5, ?_⟩
          rw [← List.drop_eq_getElem_cons h'] at h
          cases hO : oneL (s.drop a) with
          | error e => rw [hO] at h; cases h
          | ok p =>
            obtain ⟨x, n⟩ := p
            rw [hO] at h
            simp only at h
            obtain ⟨n1, n2⟩ := one_len hO
            rw [List.length_drop] at n2
            obtain ⟨L', h1, h2⟩ := map_ok2 h
            rw [List.drop_drop, show a + (n - 1) + 1 = a + n by omega, show a + 1 + (n - 1) = a + n by omega] at h1
            exact ⟨x, n, L', rfl, n1, by omega, h2.symm, h1⟩
  · obtain rfl : a = s.length := by omega
    rw [List.drop_length, toks] at h
    exact .inl ⟨rfl, (Except.ok.inj h).symm⟩
theorem toks_ne {s : By} : ∀ (k : Nat) (rm : Bool) (a : Nat) (L : List Tk), s.length - a ≤ k → a ≤ s.length → toks rm a (s.drop a) = .ok L → L ≠ [] := by
  intro k
  induction k with
  | zero =>
    intro rm a L hk ha h
    rcases toks_cases ha h with ⟨_, rfl⟩ | ⟨ha', _⟩ | ⟨_, ha', _⟩
    · simp
    · omega
    · omega
  | succ k ih =>
    intro rm a L hk ha h
    rcases toks_cases ha h with ⟨_, rfl⟩ | ⟨ha', rm', h1, _⟩ | ⟨_, ha', _, _, x, n, L', _, _, _, rfl, _⟩
    · simp
    · exact ih rm' (a + 1) L (by omega) (by omega) h1
    · simp
/-- What stands ahead of the first token. -/
theorem gap_go {s : By} : ∀ (k : Nat) (rm : Bool) (a : Nat) (b : Tk) (L : List Tk), s.length - a ≤ k → a ≤ s.length → toks rm a (s.drop a) = .ok (b :: L) → (a : Int) ≤ b.p ∧ b.p ≤ s.length ∧ ∀ (o : Nat) (R : By), toks rm o (cutB s a b.p.toNat ++ 10 :: R) = toks false (o + (b.p.toNat - a) + 1) R := by
  have here : ∀ (rm : Bool) (a : Nat) (o : Nat) (R : By), toks rm o (cutB s a ((a : Int)).toNat ++ 10 :: R) = toks false (o + (((a : Int)).toNat - a) + 1) R := fun rm a o R => by
    rw [Int.toNat_natCast, cut_self, List.nil_append, Nat.sub_self, ten_go]
    try rfl
  intro k
  induction k with
  | zero =>
    intro rm a b L hk ha h
    rcases toks_cases ha h with ⟨_, h1⟩ | ⟨ha', _⟩ | ⟨_, ha', _⟩
    · obtain ⟨rfl, _⟩ := List.cons.inj h1
      exact ⟨Int.le_refl _, by show (a : Int) ≤ _; omega, here rm a⟩
    · omega
    · omega
  | succ k ih =>
    intro rm a b L hk ha h
    rcases toks_cases ha h with ⟨_, h1⟩ | ⟨ha', rm', h1, h2⟩ | ⟨_, ha', _, _, x, n, L', _, _, _, h1, _⟩
    · obtain ⟨rfl, _⟩ := List.cons.inj h1
      exact ⟨Int.le_refl _, by show (a : Int) ≤ _; omega, here rm a⟩
    · obtain ⟨g1, g2, g3⟩ := ih rm' (a + 1) b L (by omega) (by omega) h1
      refine ⟨by omega, g2, fun o R => ?_⟩
      rw [cut_cons s ha' (by omega), List.cons_append, h2, g3]
      congr 1
      omega
    · obtain ⟨rfl, _⟩ := List.cons.inj h1
      exact ⟨Int.le_refl _, by show (a : Int) ≤ _; omega, here rm a⟩
/-- Places rise. -/
def upT (s : By) : Int → List Tk → Prop
  | _, [] => True
  | lo, b :: L => lo ≤ b.p ∧ b.p ≤ s.length ∧ upT s b.p L
theorem upT_get {s : By} : ∀ (L : List Tk) (lo : Int), upT s lo L → ∀ (i : Nat) (h : i < L.length), lo ≤ L[i].p ∧ L[i].p ≤ s.length ∧ ∀ h' : i + 1 < L.length, L[i].p ≤ L[i + 1].p
  | [], _, _, i, h => absurd h (by simp)
  | [b], lo, hu, i, h => by
    obtain ⟨h1, h2, _⟩ := hu
    obtain rfl : i = 0 := by simp at h; exact h
    exact ⟨h1, h2, fun h' => absurd h' (by simp)⟩
  | b :: c :: L, lo, hu, i, h => by
    obtain ⟨h1, h2, h3⟩ := hu
    cases i with
    | zero =>
      refine ⟨h1, h2, fun _ => h3.1⟩
    | succ i =>
      obtain ⟨g1, g2, g3⟩ := upT_get (c :: L) b.p h3 i (by simpa using h)
      exact ⟨Int.le_trans h1 g1, g2, fun h' => g3 (by simpa using h')⟩
theorem upT_mono {s : By} {lo lo' : Int} (h : lo' ≤ lo) : ∀ {L : List Tk}, upT s lo L → upT s lo' L
  | [], _ => trivial
  | _ :: _, ⟨h1, h2, h3⟩ => ⟨Int.le_trans h h1, h2, h3⟩
theorem toks_up {s : By} : ∀ (k : Nat) (rm : Bool) (a : Nat) (L : List Tk), s.length - a ≤ k → a ≤ s.length → toks rm a (s.drop a) = .ok L → upT s a L := by
  intro k
  induction k with
  | zero =>
    intro rm a L hk ha h
    rcases toks_cases ha h with ⟨_, rfl⟩ | ⟨ha', _⟩ | ⟨_, ha', _⟩
    · exact ⟨Int.le_refl _, by show (a : Int) ≤ _; omega, trivial⟩
    · omega
    · omega
  | succ k ih =>
    intro rm a L hk ha h
    rcases toks_cases ha h with ⟨_, rfl⟩ | ⟨ha', rm', h1, _⟩ | ⟨_, ha', _, _, x, n, L', _, _, _, rfl, h1⟩
    · exact ⟨Int.le_refl _, by show (a : Int) ≤ _; omega, trivial⟩
    · exact upT_mono (by omega) (ih rm' (a + 1) L (by omega) (by omega) h1)
    · exact ⟨Int.le_refl _, by show (a : Int) ≤ _; omega, upT_mono (by show (a : Int) ≤ _; omega) (ih false (a + n) L' (by omega) (by omega) h1)⟩
theorem sep_go (i : Nat) (R : By) : ∃ R' : By, sepB i ++ R = 10 :: R' ∧ ∀ o : Nat, ∃ o' : Nat, toks false o R' = toks false o' R := by
  unfold sepB
  split
  · exact ⟨R, rfl, fun o => ⟨o, rfl⟩⟩
  · refine ⟨32 :: R, rfl, fun o => ⟨o + 1, ?_⟩⟩
    rw [toks.eq_def]
    simp only
    rw [if_neg (by decide), if_pos (by decide)]
theorem spread_go {s : By} : ∀ (k : Nat) (rm : Bool) (a : Nat) (L : List Tk) (i o : Nat), s.length - a ≤ k → a ≤ s.length → toks rm a (s.drop a) = .ok L → ∃ M, toks false o (spr s i L) = .ok M ∧ M.map bareT = L.map bareT := by
  have last : ∀ (a i o : Nat), ∃ M, toks false o (spr s i [⟨8, [], 0, 0, 0, a⟩]) = .ok M ∧ M.map bareT = [(⟨8, [], 0, 0, 0, a⟩ : Tk)].map bareT := fun a i o => by
    refine ⟨[⟨8, [], 0, 0, 0, o⟩], ?_, rfl⟩
    rw [spr, toks]
  intro k
  induction k with
  | zero =>
    intro rm a L i o hk ha h
    rcases toks_cases ha h with ⟨_, rfl⟩ | ⟨ha', _⟩ | ⟨_, ha', _⟩
    · exact last a i o
    · omega
    · omega
  | succ k ih =>
    intro rm a L i o hk ha h
    rcases toks_cases ha h with ⟨_, rfl⟩ | ⟨ha', rm', h1, _⟩ | ⟨_, ha', hb, h5, x, n, L', hO, n1, n2, rfl, h1⟩
    · exact last a i o
    · exact ih rm' (a + 1) L i o (by omega) (by omega) h1
    · cases L' with
      | nil => exact absurd rfl (toks_ne _ _ _ _ (Nat.le_refl _) n2 h1)
      | cons b L' =>
        obtain ⟨g1, g2, g3⟩ := gap_go _ _ _ _ _ (Nat.le_refl _) n2 h1
        rw [spr_cons]
        show ∃ M, toks false o (cutB s (a : Int).toNat b.p.toNat ++ sepB i ++ spr s (i + 1) (b :: L')) = .ok M ∧ _
        obtain ⟨R', hR, hR'⟩ := sep_go i (spr s (i + 1) (b :: L'))
        rw [Int.toNat_natCast, List.append_assoc, hR, cut_split s (show a ≤ a + n by omega) (show a + n ≤ b.p.toNat by omega), Nat.add_sub_cancel_left, List.append_assoc]
        have hone := one_app hO (cutB s (a + n) b.p.toNat ++ 10 :: R') (fun c v hc => by
          rcases Nat.lt_or_ge (a + n) b.p.toNat with hlt | hge
          · rw [cut_cons s (by omega) hlt] at hc
            obtain ⟨rfl, _⟩ := List.cons.inj hc
            exact .inr ⟨by rw [List.length_drop]; omega, drop_get (by omega)⟩
          · have : cutB s (a + n) b.p.toNat = [] := by
              unfold cutB
              exact List.drop_eq_nil_of_le (by simp; omega)
            rw [this] at hc
            obtain ⟨rfl, _⟩ := List.cons.inj hc
            exact .inl rfl)
        have hsh : (s.drop a).take n ++ (cutB s (a + n) b.p.toNat ++ 10 :: R') = s[a] :: ((s.drop (a + 1)).take (n - 1) ++ (cutB s (a + n) b.p.toNat ++ 10 :: R')) := by
          rw [List.drop_eq_getElem_cons ha', ← List.cons_append, ← List.take_succ_cons, Nat.sub_add_cancel n1]
        have hdr : ((s.drop (a + 1)).take (n - 1) ++ (cutB s (a + n) b.p.toNat ++ 10 :: R')).drop (n - 1) = cutB s (a + n) b.p.toNat ++ 10 :: R' := by
          have hl : ((s.drop (a + 1)).take (n - 1)).length = n - 1 := by simp; omega
          rw [List.drop_append, List.drop_eq_nil_of_le (by omega), hl, Nat.sub_self]
          rfl
        rw [hsh] at hone ⊢
        rw [toks.eq_def]
        simp only
        rw [if_neg (by decide), if_neg hb, if_neg h5, hone]
        simp only
        rw [hdr, g3]
        obtain ⟨o', ho'⟩ := hR' (o + (n - 1) + 1 + (b.p.toNat - (a + n)) + 1)
        rw [ho']
        obtain ⟨M, hM1, hM2⟩ := ih false (a + n) (b :: L') (i + 1) o' (by omega) n2 h1
        rw [hM1]
        refine ⟨_, rfl, ?_⟩
        show bareT { x with p := o } :: M.map bareT = bareT { x with p := a } :: (b :: L').map bareT
        rw [hM2]
        rfl
/-- Blanks between tokens change none. -/
theorem spread {s : By} {L : List Tk} (h : toks false 0 s = .ok L) : (∃ M, toks false 0 (spr s 0 L) = .ok M ∧ M.map bareT = L.map bareT) ∧ upT s 0 L :=
  ⟨spread_go s.length false 0 L 0 0 (by omega) (by omega) (by rw [List.drop_zero]; exact h), toks_up s.length false 0 L (by omega) (by omega) (by rw [List.drop_zero]; exact h)⟩
theorem txL_esc : ∀ (q acc : By), (∀ b ∈ q, txB (bI b) = true) → (acc ++ q).length ≤ 200 → txL acc (escL q ++ [34]) = some (acc ++ q, (escL q).length + 1)
  | [], acc, _, hl => by
    show txL acc [34] = _
    rw [txL, if_pos rfl, if_pos (by simpa using hl)]
    simp [escL]
  | b :: q, acc, hq, hl => by
    have hb := hq b (List.mem_cons_self ..)
    have ih := txL_esc q (acc ++ [b]) (fun c hc => hq c (List.mem_cons_of_mem _ hc)) (by simpa using hl)
    have e : escL (b :: q) = escB b ++ escL q := by simp [escL]
    have e34 : bI b = 34 ↔ b = 34 := bI_is b 34 (by decide)
    have e92 : bI b = 92 ↔ b = 92 := bI_is b 92 (by decide)
    have ha : acc ++ [b] ++ q = acc ++ b :: q := by simp
    rw [ha] at ih
    rw [e]
    unfold escB
    by_cases hes : esB (bI b) = true
    · rw [if_pos hes]
      show txL acc (92 :: b :: (escL q ++ [34])) = _
      rw [txL.eq_def]
      simp only
      rw [if_neg (by decide), if_pos (by decide), if_pos trivial, if_pos hes, ih]
      simp
    · rw [if_neg hes]
      have h34 : b ≠ 34 := fun e => hes (by unfold esB; rw [e34.2 e]; rfl)
      have h92 : b ≠ 92 := fun e => hes (by unfold esB; rw [e92.2 e]; rfl)
      show txL acc (b :: (escL q ++ [34])) = _
      rw [txL.eq_def]
      simp only
      rw [if_neg h34, if_pos hb, if_neg h92, ih]
      simp
      try omega
/-- What Quote tells is one text. -/
theorem scan_quote {q t : By} (h : quoP q = (0, t)) : scanQ t = .ok [⟨6, q, 0, 0, 0, 0⟩, ⟨8, [], 0, 0, 0, t.length⟩] := by
  unfold quoP at h
  split at h
  · cases h
  · rename_i hl
    split at h
    · rename_i hq
      obtain ⟨_, rfl⟩ := Prod.mk.inj h
      have hx := txL_esc q [] (fun b hb => List.all_eq_true.1 hq b hb) (by simpa using hl)
      have hlen : (escL q).length ≤ 2 * q.length := by
        clear hx hq h hl
        unfold escL
        induction q with
        | nil => simp
        | cons b q ih =>
          have : (escB b).length ≤ 2 := by unfold escB; split <;> simp
          simp only [List.map_cons, List.flatten_cons, List.length_append, List.length_cons]
          omega
      have ho : oneL (34 :: (escL q ++ [34])) = .ok (⟨6, q, 0, 0, 0, 0⟩, (escL q).length + 1 + 1) := by
        rw [oneL, if_neg (by decide), if_neg (by decide), if_neg (by decide), if_pos rfl, hx]
        rfl
      rw [scan_toks (by simp; omega), toks.eq_def]
      show (if false = true then _ else if blB (bI 34) = true then _ else if (34 : UInt8) = 35 then _ else match oneL (34 :: (escL q ++ [34])) with | .error e => _ | .ok (x, n) => _) = _
      rw [if_neg (by decide), if_neg (by decide), if_neg (by decide), ho]
      simp only
      rw [List.drop_eq_nil_of_le (by simp), toks]
      show Except.ok [_, _] = _
      simp
    · cases h
/-- A word, a name is one token. -/
theorem scan_name {s : By} (h1 : fsB s = true) (h2 : allGo 2 s = true) (h3 : s.length ≤ 32) : scanQ s = .ok [⟨if wdB s = true then 1 else 2, s, 0, 0, 0, 0⟩, ⟨8, [], 0, 0, 0, s.length⟩] := by
  cases s with
  | nil => cases h1
  | cons c t =>
    have hc : smB (bI c) = true := h1
    have htw : (c :: t).takeWhile (fun b => goB 2 (bI b)) = c :: t := by
      have := List.takeWhile_append_of_pos (l₁ := c :: t) (l₂ := []) (p := fun b => goB 2 (bI b)) (fun b hb => List.all_eq_true.1 h2 b hb)
      simpa using this
    have ho : oneL (c :: t) = .ok (⟨if wdB (c :: t) = true then 1 else 2, c :: t, 0, 0, 0, 0⟩, (c :: t).length) := by
      rw [oneL, if_pos hc, htw]
      unfold endT
      rw [if_pos rfl, if_neg (by omega)]
      rfl
    have hsm : 97 ≤ bI c ∧ bI c ≤ 122 := by
      unfold smB at hc
      simpa using hc
    have hbl : blB (bI c) ≠ true := by
      unfold blB
      simp
      omega
    have h35 : c ≠ 35 := fun e => by
      rw [e] at hsm
      revert hsm
      decide
    rw [scan_toks (by omega), toks.eq_def]
    simp only
    rw [if_neg (by decide), if_neg hbl, if_neg h35, ho]
    simp only
    rw [List.drop_eq_nil_of_le (by simp), toks]
    show Except.ok [_, _] = _
    simp
theorem words_small : ∀ v ∈ wordsL, fsB v = true ∧ allGo 2 v = true ∧ v.length ≤ 32 := by decide +kernel
theorem word_form {s : By} (h : wdB s = true) : fsB s = true ∧ allGo 2 s = true ∧ s.length ≤ 32 := words_small s (List.contains_iff_mem.1 h)
theorem first_at {s : By} : ∀ (k : Nat) (rm : Bool) (a : Nat) (x y : Tk) (L : List Tk), s.length - a ≤ k → a ≤ s.length → toks rm a (s.drop a) = .ok (x :: y :: L) → ∃ (j : Nat) (z : Tk) (n : Nat), a ≤ j ∧ oneL (s.drop j) = .ok (z, n) ∧ x = { z with p := j } := by
  intro k
  induction k with
  | zero =>
    intro rm a x y L hk ha h
    rcases toks_cases ha h with ⟨_, h1⟩ | ⟨ha', _⟩ | ⟨_, ha', _⟩
    · cases h1
    · omega
    · omega
  | succ k ih =>
    intro rm a x y L hk ha h
    rcases toks_cases ha h with ⟨_, h1⟩ | ⟨ha', rm', h1, _⟩ | ⟨_, ha', _, _, z, n, L', hO, _, _, h1, _⟩
    · cases h1
    · obtain ⟨j, z, n, g1, g2, g3⟩ := ih rm' (a + 1) x y L (by omega) (by omega) h1
      exact ⟨j, z, n, by omega, g2, g3⟩
    · obtain ⟨rfl, _⟩ := List.cons.inj h1
      exact ⟨a, z, n, Nat.le_refl _, hO, rfl⟩
theorem dgT_kind {run : By} {z : Tk} (h : dgT run = some z) : z.k = 4 ∨ z.k = 5 := by
  unfold dgT at h
  split at h
  · cases hx : pfxL run with
    | none => rw [hx] at h; cases h
    | some p => rw [hx] at h; rw [← Option.some.inj h]; exact .inr rfl
  · cases hx : numB run with
    | none => rw [hx] at h; cases h
    | some p => rw [hx] at h; rw [← Option.some.inj h]; exact .inl rfl
/-- A token that is a word or a name. -/
theorem one_name {r : By} {z : Tk} {n : Nat} (h : oneL r = .ok (z, n)) (hk : z.k = 1 ∨ z.k = 2) (ht : z.t = r) : fsB r = true ∧ allGo 2 r = true ∧ r.length ≤ 32 ∧ (z.k = 1 ↔ wdB r = true) := by
  cases r with
  | nil => cases h
  | cons c t =>
    rw [oneL] at h
    by_cases h2 : smB (bI c) = true
    · rw [if_pos h2] at h
      obtain ⟨z', hz1, hz⟩ := map_ok h
      obtain ⟨rfl, _⟩ := Prod.mk.inj hz
      obtain ⟨g1, _⟩ := tw_spec (fun b => goB 2 (bI b)) (c :: t)
      unfold endT at hz1
      rw [if_pos rfl] at hz1
      split at hz1
      · cases hz1
      · rename_i hl
        have hz1 := (Except.ok.inj hz1).symm
        subst hz1
        have ht : (c :: t).takeWhile (fun b => goB 2 (bI b)) = c :: t := ht
        simp only [ht] at *
        refine ⟨h2, List.all_eq_true.2 g1, by omega, ?_⟩
        by_cases hw : wdB (c :: t) = true
        · simp [hw]
        · simp [hw]
    · exfalso
      rw [if_neg h2] at h
      by_cases h3 : grB (bI c) = true
      · rw [if_pos h3] at h
        obtain ⟨z', hz1, hz⟩ := map_ok h
        obtain ⟨rfl, _⟩ := Prod.mk.inj hz
        unfold endT at hz1
        rw [if_neg (by decide), if_pos rfl] at hz1
        split at hz1
        · cases hz1
        · rw [← Except.ok.inj hz1] at hk
          simp at hk
      · rw [if_neg h3] at h
        by_cases h4 : dgB (bI c) = true
        · rw [if_pos h4] at h
          obtain ⟨z', hz1, hz⟩ := map_ok h
          obtain ⟨rfl, _⟩ := Prod.mk.inj hz
          unfold endT at hz1
          rw [if_neg (by decide), if_neg (by decide)] at hz1
          split at hz1
          · rename_i z'' hd
            have := dgT_kind hd
            rw [← Except.ok.inj hz1] at hk
            omega
          · cases hz1
        · rw [if_neg h4] at h
          by_cases h34 : c = 34
          · rw [if_pos h34] at h
            split at h
            · obtain ⟨rfl, _⟩ := Prod.mk.inj (Except.ok.inj h)
              simp at hk
            · cases h
          · rw [if_neg h34] at h
            by_cases h7 : sgB (bI c) = true
            · rw [if_pos h7] at h
              obtain ⟨rfl, _⟩ := Prod.mk.inj (Except.ok.inj h)
              simp at hk
            · rw [if_neg h7] at h
              cases h
/-- What is scanned as one word or name. -/
theorem name_scan {s : By} {a b : Tk} (h : scanQ s = .ok [a, b]) (ht : a.t = s) (hp : a.p = 0) : (a.k = 1 → wdB s = true) ∧ (a.k = 2 → nmB s = true) := by
  have hl : s.length ≤ 8000 := by
    rcases Nat.lt_or_ge 8000 s.length with h' | h'
    · unfold scanQ at h
      rw [if_pos h'] at h
      cases h
    · exact h'
  rw [scan_toks hl] at h
  obtain ⟨j, z, n, _, hO, rfl⟩ := first_at (s := s) s.length false 0 a b [] (by omega) (by omega) (by rw [List.drop_zero]; exact h)
  have hp : (j : Int) = 0 := hp
  obtain rfl : j = 0 := by omega
  rw [List.drop_zero] at hO
  have ht : z.t = s := ht
  constructor
  · intro hk
    exact (one_name hO (.inl hk) ht).2.2.2.1 hk
  · intro hk
    obtain ⟨g1, g2, g3, g4⟩ := one_name hO (.inr hk) ht
    have hw : wdB s = false := by
      cases hw : wdB s with
      | false => rfl
      | true =>
        have e1 := g4.2 hw
        have hk : z.k = 2 := hk
        omega
    unfold nmB
    rw [hw, g1, g2, decide_eq_true g3]
    rfl
end Go.Proofs.YtlmhofjiobmodaaGreatDoor
/-
  The pieces, one by one. Pure. No condition.
-/
namespace Go.Proofs.YtlmhofjiobmodaaGreatDoor
open Go.RowKit Go.Lib

theorem toks_len {s : By} : ∀ (k : Nat) (rm : Bool) (a : Nat) (L : List Tk), s.length - a ≤ k → a ≤ s.length → toks rm a (s.drop a) = .ok L → L.length ≤ s.length - a + 1 := by
  intro k
  induction k with
  | zero =>
    intro rm a L hk ha h
    rcases toks_cases ha h with ⟨_, rfl⟩ | ⟨ha', _⟩ | ⟨_, ha', _⟩
    · simp
    · omega
    · omega
  | succ k ih =>
    intro rm a L hk ha h
    rcases toks_cases ha h with ⟨_, rfl⟩ | ⟨ha', rm', h1, _⟩ | ⟨_, ha', _, _, x, n, L', _, n1, n2, rfl, h1⟩
    · simp
    · have := ih rm' (a + 1) L (by omega) (by omega) h1
      omega
    · have := ih false (a + n) L' (by omega) (by omega) h1
      simp only [List.length_cons]
      omega
theorem scan_len {s : By} {L : List Tk} (h : scanQ s = .ok L) : L.length ≤ 8001 ∧ 1 ≤ L.length := by
  have hl := scan_ok_len h
  rw [scan_toks hl] at h
  have h1 := toks_len (s := s) s.length false 0 L (by omega) (by omega) (by rw [List.drop_zero]; exact h)
  have h2 := toks_ne (s := s) s.length false 0 L (by omega) (by omega) (by rw [List.drop_zero]; exact h)
  refine ⟨by omega, ?_⟩
  cases L with
  | nil => exact absurd rfl h2
  | cons a L => simp
theorem spr_len (s : By) : ∀ (L : List Tk) (i : Nat), (spr s i L).length ≤ L.length * (s.length + 2)
  | [], _ => by simp [spr]
  | [_], _ => by simp [spr]
  | a :: b :: L, i => by
    have ih := spr_len s (b :: L) (i + 1)
    rw [spr_cons]
    have h1 : (cutB s a.p.toNat b.p.toNat).length ≤ s.length := by
      unfold cutB
      simp
      omega
    have h2 : (sepB i).length ≤ 2 := by
      unfold sepB
      split <;> simp
    have e : (a :: b :: L).length * (s.length + 2) = (b :: L).length * (s.length + 2) + (s.length + 2) := by
      rw [List.length_cons, Nat.add_mul, Nat.one_mul]
    rw [e, List.length_append, List.length_append]
    omega
theorem spr_step (s : By) (L : List Tk) (i : Nat) (hi : i + 1 < L.length) : spr s i (L.drop i) = cutB s L[i].p.toNat L[i + 1].p.toNat ++ sepB i ++ spr s (i + 1) (L.drop (i + 1)) := by
  rw [List.drop_eq_getElem_cons (show i < L.length by omega), List.drop_eq_getElem_cons hi, spr_cons]
theorem spr_stop (s : By) (L : List Tk) (i : Nat) (hi : L.length ≤ i + 1) : spr s i (L.drop i) = [] := by
  have : (L.drop i).length ≤ 1 := by simp; omega
  generalize L.drop i = M at *
  match M, this with
  | [], _ => rfl
  | [_], _ => rfl
/-- What Scan tells of the pieces. -/
theorem spread_scan {s : By} {L : List Tk} (h : scanQ s = .ok L) : ((spr s 0 L).length ≤ 8000 → ∃ M, scanQ (spr s 0 L) = .ok M ∧ L.map bareT = M.map bareT) ∧ upT s 0 L ∧ (spr s 0 L).length ≤ 1000000000 := by
  have hl := scan_ok_len h
  obtain ⟨h1, _⟩ := scan_len h
  have hs := spr_len s L 0
  have hm : L.length * (s.length + 2) ≤ 8001 * 8002 := Nat.mul_le_mul h1 (by omega)
  rw [scan_toks hl] at h
  obtain ⟨⟨M, m1, m2⟩, hu⟩ := spread h
  exact ⟨fun h8 => ⟨M, by rw [scan_toks h8]; exact m1, m2.symm⟩, hu, by omega⟩
end Go.Proofs.YtlmhofjiobmodaaGreatDoor
/-
  Where the pure reader may stop: places of tokens. Of no program: no condition.
-/
namespace Go.Proofs.YtlmhofjiobmodaaGreatDoor

/-- Tokens whose places rise, the end last. -/
structure Up (T : List Tk) (E : Nat) : Prop where
  e8 : (tok T E).k = 8
  up : ∀ i j, i < j → j ≤ E → (tok T i).p < (tok T j).p
def Frm {α : Type} (T : List Tk) (E : Nat) (φ : α → Prop) (a : Nat) (r : PR α) : Prop := match r with
  | .ok c j => a ≤ j ∧ j ≤ E ∧ φ c
  | .bad e p => (e = 90 ∨ e = 91 ∨ e = 92) ∧ ∃ i, a ≤ i ∧ i ≤ E ∧ p = (tok T i).p ∧ (e = 92 → i < E)
  | .out => True
def Plc (T : List Tk) (E a : Nat) (c : CT) : Prop := ∃ i, a ≤ i ∧ i ≤ E ∧ c.p = (tok T i).p
theorem Plc.le {T : List Tk} {E a b : Nat} {c : CT} (h : Plc T E b c) (hab : a ≤ b) : Plc T E a c := by
  obtain ⟨i, h1, h2⟩ := h
  exact ⟨i, Nat.le_trans hab h1, h2⟩
section
variable {T : List Tk} {E : Nat}
theorem Frm.bind {α β : Type} {φ : α → Prop} {ψ : β → Prop} {a b : Nat} {x : PR α} {f : α → Nat → PR β} (h : Frm T E φ b x) (hab : a ≤ b) (hf : ∀ c j, x = .ok c j → b ≤ j → j ≤ E → φ c → Frm T E ψ a (f c j)) : Frm T E ψ a (x.bind f) := by
  cases x with
  | ok c j => exact hf c j rfl h.1 h.2.1 h.2.2
  | bad e p =>
    obtain ⟨h1, i, h2, h3⟩ := h
    exact ⟨h1, i, Nat.le_trans hab h2, h3⟩
  | out => trivial
theorem Frm.le {α : Type} {φ ψ : α → Prop} {a b : Nat} {r : PR α} (h : Frm T E φ b r) (hab : a ≤ b) (hp : ∀ c, φ c → ψ c) : Frm T E ψ a r := by
  cases r with
  | ok c j => exact ⟨Nat.le_trans hab h.1, h.2.1, hp c h.2.2⟩
  | bad e p =>
    obtain ⟨h1, i, h2, h3⟩ := h
    exact ⟨h1, i, Nat.le_trans hab h2, h3⟩
  | out => trivial
theorem Frm.at {α : Type} {φ : α → Prop} {a : Nat} {i : Nat} (h1 : a ≤ i) (h2 : i ≤ E) : Frm T E φ a (.bad 90 (tok T i).p) := ⟨.inl rfl, i, h1, h2, rfl, fun h => absurd h (by decide)⟩
theorem Frm.many {α : Type} {φ : α → Prop} {a : Nat} {i : Nat} (h1 : a ≤ i) (h2 : i + 1 ≤ E) : Frm T E φ a (.bad 92 (tok T i).p) := ⟨.inr (.inr rfl), i, h1, Nat.le_of_succ_le h2, rfl, fun _ => h2⟩
theorem Up.next (h : Up T E) {i : Nat} (hi : i ≤ E) (hk : (tok T i).k ≠ 8) : i + 1 ≤ E := by
  rcases Nat.lt_or_ge i E with h1 | h1
  · exact h1
  · obtain rfl : i = E := by omega
    exact absurd h.e8 hk
theorem Up.isT (h : Up T E) {kind : Int} {text : By} {i : Nat} (hi : i ≤ E) (hk : kind ≠ 8) (ht : isT T kind text i = true) : i + 1 ≤ E := by
  unfold Go.Proofs.YtlmhofjiobmodaaGreatDoor.isT at ht
  simp only [Bool.and_eq_true, beq_iff_eq] at ht
  exact h.next hi (by rw [ht.1]; exact hk)
theorem takeP_frm (hu : Up T E) {kind : Int} (hk : kind ≠ 8) {a : Nat} (ha : a ≤ E) : Frm T E (fun _ => True) a (takeP T kind a) := by
  unfold takeP
  split
  · rename_i h
    exact ⟨by omega, hu.next ha (by rw [h]; exact hk), trivial⟩
  · exact Frm.at (Nat.le_refl _) ha
theorem takeT_frm (hu : Up T E) {kind : Int} {text : By} (hk : kind ≠ 8) {a : Nat} (ha : a ≤ E) : Frm T E (fun _ => True) a (takeT T kind text a) := by
  unfold takeT
  split
  · rename_i h
    exact ⟨by omega, hu.isT ha hk h, trivial⟩
  · exact Frm.at (Nat.le_refl _) ha
theorem partP_frm (hu : Up T E) {kind : Int} (hk : kind ≠ 8) (c : CT) {a : Nat} (ha : a ≤ E) : Frm T E (fun d => d.p = c.p) a (partP T kind c a) := by
  unfold partP
  refine (takeP_frm hu hk ha).bind (Nat.le_refl _) fun t j _ h1 h2 _ => ?_
  split
  · exact ⟨h1, h2, rfl⟩
  · split
    · split
      · rename_i h
        exact (takeP_frm hu (by decide) (hu.isT h2 (by decide) h)).bind (by omega) fun u l _ g1 g2 _ => ⟨by omega, g2, rfl⟩
      · exact ⟨h1, h2, rfl⟩
    · exact ⟨h1, h2, rfl⟩
theorem moreP_frm (hu : Up T E) {kind : Int} (hk : kind ≠ 8) : ∀ (f parts : Nat) (c : CT) {a : Nat}, a ≤ E → Frm T E (fun d => d.p = c.p) a (moreP T kind f parts c a)
  | 0, _, _, _, _ => trivial
  | f + 1, parts, c, a, ha => by
    unfold moreP
    split
    · rename_i h
      have hn := hu.isT ha (by decide) h
      split
      · rename_i h2
        exact Frm.many (by omega) (hu.next hn (by rw [h2.2]; exact hk))
      · exact (partP_frm hu hk c hn).bind (by omega) fun d j _ g1 g2 g3 => (moreP_frm hu hk f (parts + 1) d g2).le (by omega) (fun x h => by rw [h, g3])
    · exact (takeT_frm hu (by decide) ha).bind (Nat.le_refl _) fun _ j _ g1 g2 _ => ⟨g1, g2, rfl⟩
theorem listP_frm (hu : Up T E) {kind : Int} (hk : kind ≠ 8) (f : Nat) (c : CT) {a : Nat} (ha : a ≤ E) : Frm T E (fun d => d.p = c.p) a (listP T f kind c a) :=
  (takeT_frm hu (by decide) ha).bind (Nat.le_refl _) fun _ j _ h1 h2 _ => (takeT_frm hu (by decide) h2).bind (by omega) fun _ l _ g1 g2 _ => (partP_frm hu hk c g2).bind (by omega) fun d m _ k1 k2 k3 => (moreP_frm hu hk f 1 d k2).le (by omega) (fun x h => by rw [h, k3])
theorem restP_frm (hu : Up T E) (f : Nat) (c : CT) {a : Nat} (ha : a ≤ E) : Frm T E (fun d => d.p = c.p) a (restP T f c a) := by
  unfold restP
  split
  · exact listP_frm hu (by decide) f c ha
  split
  · exact listP_frm hu (by decide) f c ha
  split
  · exact listP_frm hu (by decide) f c ha
  split
  · exact (takeT_frm hu (by decide) ha).bind (Nat.le_refl _) fun _ j _ h1 h2 _ => (takeP_frm hu (by decide) h2).bind h1 fun t l _ g1 g2 _ => ⟨by omega, g2, rfl⟩
  split
  · exact (takeP_frm hu (by decide) ha).bind (Nat.le_refl _) fun _ j _ h1 h2 _ => (takeT_frm hu (by decide) h2).bind h1 fun t l _ g1 g2 _ => (takeP_frm hu (by decide) g2).bind (by omega) fun t l _ k1 k2 _ => ⟨by omega, k2, rfl⟩
  split
  · exact (takeP_frm hu (by decide) ha).bind (Nat.le_refl _) fun t l _ g1 g2 _ => ⟨g1, g2, rfl⟩
  exact ⟨Nat.le_refl _, ha, rfl⟩
theorem overP_frm {c : CT} {a i : Nat} (h1 : a ≤ i) (h2 : i ≤ E) (h : Plc T E a c) : Frm T E (Plc T E a) a (overP c i) := by
  unfold overP
  split
  · obtain ⟨l, q1, q2, q3⟩ := h
    exact ⟨.inr (.inl rfl), l, q1, q2, q3, fun h => absurd h (by decide)⟩
  · exact ⟨h1, h2, h⟩
theorem kindAt_ne {word : Nat → By} {i : Nat} : ∀ {n k : Nat}, kindAt T word i n k ≠ 0 → (tok T i).k = 1
  | 0, _, h => absurd rfl h
  | n + 1, k, h => by
    unfold kindAt at h
    split at h
    · rename_i h1
      unfold isT at h1
      simp only [Bool.and_eq_true, beq_iff_eq] at h1
      exact h1.1
    · exact kindAt_ne h
theorem beg_ne {i : Nat} (h : begP T i = true) : (tok T i).k ≠ 8 := by
  unfold begP isT at h
  simp only [Bool.or_eq_true, Bool.and_eq_true, beq_iff_eq, bne_iff_ne] at h
  rcases h with ((h | h) | h) | h
  · rw [h]; decide
  · rw [h.1]; decide
  · rw [h.1]; decide
  · rw [kindAt_ne h]; decide
theorem rowP_frm (hu : Up T E) {part : Nat → PR CT} {word : By} {kind : Int} {a : Nat} {p : Int} (hp : ∃ i, a ≤ i ∧ i ≤ E ∧ p = (tok T i).p) (hpt : ∀ j, j ≤ E → Frm T E (Plc T E j) j (part j)) : ∀ (f : Nat) (ks : List CT) (i : Nat), a ≤ i → i ≤ E → Frm T E (Plc T E a) a (rowP T part word kind f ks p i)
  | 0, _, _, _, _ => trivial
  | f + 1, ks, i, h1, h2 => by
    unfold rowP
    split
    · rename_i h
      have hn := hu.isT h2 (by decide) h
      split
      · rename_i h2
        exact Frm.many (by omega) (hu.next hn (beg_ne h2.2))
      · exact (hpt (i + 1) hn).bind (by omega) fun c j _ g1 g2 _ => rowP_frm hu hp hpt f (ks ++ [c]) j (by omega) g2
    · exact overP_frm h1 h2 hp
theorem condP_frm (hu : Up T E) : ∀ (f place i : Nat), i ≤ E → Frm T E (Plc T E i) i (condP T f place i)
  | 0, _, _, _ => trivial
  | f + 1, 0, i, hi => by
    rw [condP_zero]
    refine (condP_frm hu f 1 i hi).bind (Nat.le_refl _) fun c j _ h1 h2 h3 => ?_
    split
    · exact rowP_frm hu h3 (fun l hl => condP_frm hu f 1 l hl) f [c] j h1 h2
    · exact ⟨h1, h2, h3⟩
  | f + 1, 1, i, hi => by
    rw [condP_one]
    refine (condP_frm hu f 2 i hi).bind (Nat.le_refl _) fun c j _ h1 h2 h3 => ?_
    split
    · exact rowP_frm hu h3 (fun l hl => condP_frm hu f 2 l hl) f [c] j h1 h2
    · exact ⟨h1, h2, h3⟩
  | f + 1, 2, i, hi => by
    rw [condP_two]
    split
    · rename_i h
      have hn := hu.isT hi (by decide) h
      exact (condP_frm hu f 2 (i + 1) hn).bind (by omega) fun c j _ h1 h2 _ => overP_frm (by omega) h2 ⟨i, Nat.le_refl _, hi, rfl⟩
    · exact condP_frm hu f 3 i hi
  | f + 1, n + 3, i, hi => by
    have e : condP T (f + 1) (n + 3) i = if isT T 7 [40] i = true then (condP T f 0 (i + 1)).bind fun c j => (takeT T 7 [41] j).bind fun _ l => .ok c l
      else if (tok T i).k = 2 then .ok (.mk 3 (tok T i).t [] [] [] [] [] (tok T i).p) (i + 1)
      else if testAt T i = 0 then .bad 90 (tok T i).p
      else restP T f (.mk (testAt T i : Nat) [] [] [] [] [] [] (tok T i).p) (i + 1) := by cases n <;> rfl
    rw [e]
    split
    · rename_i h
      have hn := hu.isT hi (by decide) h
      exact (condP_frm hu f 0 (i + 1) hn).bind (by omega) fun c j _ h1 h2 h3 => (takeT_frm hu (by decide) h2).bind (by omega) fun _ l _ g1 g2 _ => ⟨by omega, g2, h3.le (by omega)⟩
    · split
      · rename_i h
        exact ⟨by omega, hu.next hi (by rw [h]; decide), i, Nat.le_refl _, hi, rfl⟩
      · split
        · exact Frm.at (Nat.le_refl _) hi
        · rename_i h
          exact (restP_frm hu f _ (hu.next hi (by rw [kindAt_ne h]; decide))).le (by omega) (fun d hd => ⟨i, Nat.le_refl _, hi, hd⟩)
theorem itemP_frm (hu : Up T E) (f kind : Nat) {i : Nat} (hi : i ≤ E) : Frm T E (fun _ => True) i (itemP T f kind i) := by
  refine (takeP_frm hu (by decide) hi).bind (Nat.le_refl _) fun t j _ h1 h2 _ => (takeP_frm hu (by decide) h2).bind h1 fun u l _ g1 g2 _ => Frm.bind (φ := fun _ => True) (b := l) ?_ (by omega) fun _ m _ k1 k2 _ => (condP_frm hu f 0 m k2).bind (by omega) fun c n _ l1 l2 _ => (takeT_frm hu (by decide) l2).bind (by omega) fun _ o _ m1 m2 _ => ⟨by omega, m2, trivial⟩
  split
  · exact takeT_frm hu (by decide) g2
  · exact takeT_frm hu (by decide) g2
theorem polP_frm (hu : Up T E) : ∀ (f : Nat) (L : List IT) (i : Nat), i ≤ E → Frm T E (fun _ => True) i (polP T f L i)
  | 0, _, _, _ => trivial
  | f + 1, L, i, hi => by
    unfold polP
    split
    · exact ⟨Nat.le_refl _, hi, trivial⟩
    · split
      · exact Frm.at (Nat.le_refl _) hi
      · rename_i h0
        split
        · exact Frm.many (Nat.le_refl _) (hu.next hi (by rw [kindAt_ne h0]; decide))
        · exact (itemP_frm hu f _ hi).bind (Nat.le_refl _) fun x j _ h1 h2 _ => (polP_frm hu f _ j h2).le h1 (fun _ h => h)
end
end Go.Proofs.YtlmhofjiobmodaaGreatDoor
