/-
  The tokens of a source that is cut off ahead of one, and of what is put behind it in a new row. Of no program: no condition.
-/
import Derived.Test.YtlmhofjiobmodaaGreatDoorQ42
import Derived.Test.YtlmhofjiobmodaaGreatDoorQ45
import Derived.Test.YtlmhofjiobmodaaGreatDoorQ47
import Derived.Test.YtlmhofjiobmodaaGreatDoorQ44
namespace Go.Proofs.YtlmhofjiobmodaaGreatDoor
open Go.RowKit Go.Lib

theorem up_go {s : By} : ∀ (k : Nat) (rm : Bool) (a : Nat) (L : List Tk), s.length - a ≤ k → a ≤ s.length → toks rm a (s.drop a) = .ok L → ∀ (i : Nat) (hi : i < L.length), (a : Int) ≤ L[i].p ∧ L[i].p ≤ s.length ∧ ∀ (j : Nat) (hj : j < L.length), i < j → L[i].p < L[j].p := by
  intro k
  induction k with
  | zero =>
    intro rm a L hk ha h i hi
    rcases toks_cases ha h with ⟨_, rfl⟩ | ⟨ha', _⟩ | ⟨_, ha', _⟩
    · obtain rfl : i = 0 := by simpa using hi
      exact ⟨Int.le_refl _, by show (a : Int) ≤ _; omega, fun j hj h1 => by simp at hj; omega⟩
    · omega
    · omega
  | succ k ih =>
    intro rm a L hk ha h i hi
    rcases toks_cases ha h with ⟨_, rfl⟩ | ⟨ha', rm', h1, _⟩ | ⟨_, ha', _, _, x, n, L', _, n1, n2, rfl, h1⟩
    · obtain rfl : i = 0 := by simpa using hi
      exact ⟨Int.le_refl _, by show (a : Int) ≤ _; omega, fun j hj h1 => by simp at hj; omega⟩
    · obtain ⟨g1, g2, g3⟩ := ih rm' (a + 1) L (by omega) (by omega) h1 i hi
      exact ⟨by omega, g2, g3⟩
    · have ih2 := ih false (a + n) L' (by omega) n2 h1
      cases i with
      | zero =>
        refine ⟨Int.le_refl _, by show (a : Int) ≤ _; omega, fun j hj h2 => ?_⟩
        cases j with
        | zero => omega
        | succ j =>
          have hj' : j < L'.length := by simpa using hj
          obtain ⟨g1, _⟩ := ih2 j hj'
          show (a : Int) < L'[j].p
          omega
      | succ i =>
        have hi' : i < L'.length := by simpa using hi
        obtain ⟨g1, g2, g3⟩ := ih2 i hi'
        refine ⟨by show (a : Int) ≤ L'[i].p; omega, g2, fun j hj h2 => ?_⟩
        cases j with
        | zero => omega
        | succ j => exact g3 j (by simpa using hj) (by omega)
theorem cut_nil {s : By} {a b : Nat} (h : b ≤ a) : cutB s a b = [] := by
  unfold cutB
  exact List.drop_eq_nil_of_le (by simp; omega)
theorem map_nil_app (r : Except (Int × Int) (List Tk)) : r.map (([] : List Tk) ++ ·) = r := by cases r <;> rfl
/-- Cut off ahead of a token. -/
theorem cut_go {s : By} : ∀ (k : Nat) (rm : Bool) (a : Nat) (L : List Tk), s.length - a ≤ k → a ≤ s.length → toks rm a (s.drop a) = .ok L → ∀ (i : Nat) (hi : i < L.length), ∃ rm', ∀ u : By, (u = [] ∨ ∃ R, u = 10 :: R) → toks rm a (cutB s a L[i].p.toNat ++ u) = (toks rm' L[i].p.toNat u).map (L.take i ++ ·) := by
  have here : ∀ (rm : Bool) (a : Nat), ∃ rm', ∀ u : By, (u = [] ∨ ∃ R, u = 10 :: R) → toks rm a (cutB s a ((a : Int)).toNat ++ u) = (toks rm' ((a : Int)).toNat u).map (([] : List Tk) ++ ·) := fun rm a => ⟨rm, fun u _ => by
    rw [map_nil_app, Int.toNat_natCast, cut_self, List.nil_append]⟩
  intro k
  induction k with
  | zero =>
    intro rm a L hk ha h i hi
    rcases toks_cases ha h with ⟨_, rfl⟩ | ⟨ha', _⟩ | ⟨_, ha', _⟩
    · obtain rfl : i = 0 := by simpa using hi
      exact here rm a
    · omega
    · omega
  | succ k ih =>
    intro rm a L hk ha h i hi
    have hup := up_go _ _ _ _ (Nat.le_refl _) ha h i hi
    rcases toks_cases ha h with ⟨_, rfl⟩ | ⟨ha', rm', h1, h2⟩ | ⟨hrm, ha', hb, h5, x, n, L', hO, n1, n2, rfl, h1⟩
    · obtain rfl : i = 0 := by simpa using hi
      exact here rm a
    · obtain ⟨rm2, h3⟩ := ih rm' (a + 1) L (by omega) (by omega) h1 i hi
      have := (up_go _ _ _ _ (Nat.le_refl _) (by omega) h1 i hi).1
      refine ⟨rm2, fun u hu => ?_⟩
      rw [cut_cons s ha' (by omega), List.cons_append, h2]
      exact h3 u hu
    · cases i with
      | zero => exact here rm a
      | succ i =>
        have hi' : i < L'.length := by simpa using hi
        obtain ⟨rm2, h3⟩ := ih false (a + n) L' (by omega) n2 h1 i hi'
        have hge := (up_go _ _ _ _ (Nat.le_refl _) n2 h1 i hi').1
        have hle := (up_go _ _ _ _ (Nat.le_refl _) n2 h1 i hi').2.1
        refine ⟨rm2, fun u hu => ?_⟩
        subst hrm
        show toks false a (cutB s a L'[i].p.toNat ++ u) = (toks rm2 L'[i].p.toNat u).map ({ x with p := (a : Int) } :: L'.take i ++ ·)
        generalize hb' : L'[i].p.toNat = b at *
        have hab : a + n ≤ b := by omega
        have hbs : b ≤ s.length := by omega
        rw [cut_split s (show a ≤ a + n by omega) hab, Nat.add_sub_cancel_left, List.append_assoc]
        have hone := one_app hO (cutB s (a + n) b ++ u) (fun c v hc => by
          rcases Nat.lt_or_ge (a + n) b with hlt | hge
          · rw [cut_cons s (by omega) hlt] at hc
            obtain ⟨rfl, _⟩ := List.cons.inj hc
            exact .inr ⟨by rw [List.length_drop]; omega, drop_get (by omega)⟩
          · rw [cut_nil hge, List.nil_append] at hc
            rcases hu with rfl | ⟨R, rfl⟩
            · cases hc
            · obtain ⟨rfl, _⟩ := List.cons.inj hc
              exact .inl rfl)
        have hsh : (s.drop a).take n ++ (cutB s (a + n) b ++ u) = s[a] :: ((s.drop (a + 1)).take (n - 1) ++ (cutB s (a + n) b ++ u)) := by
          rw [List.drop_eq_getElem_cons ha', ← List.cons_append, ← List.take_succ_cons, Nat.sub_add_cancel n1]
        have hdr : ((s.drop (a + 1)).take (n - 1) ++ (cutB s (a + n) b ++ u)).drop (n - 1) = cutB s (a + n) b ++ u := by
          have hl : ((s.drop (a + 1)).take (n - 1)).length = n - 1 := by simp; omega
          rw [List.drop_append, List.drop_eq_nil_of_le (by omega), hl, Nat.sub_self]
          rfl
        rw [hsh] at hone ⊢
        rw [toks.eq_def]
        simp only
        rw [if_neg (by decide), if_neg hb, if_neg h5, hone]
        simp only
        rw [hdr, show a + (n - 1) + 1 = a + n by omega, h3 u hu]
        cases toks rm2 b u <;> rfl
section
variable {s : By} {L : List Tk} (h : scanQ s = .ok L)
include h
theorem scan_is : toks false 0 (s.drop 0) = .ok L := by rw [List.drop_zero, ← scan_toks (scan_ok_len h)]; exact h
omit h in
theorem tok_get (i : Nat) (hi : i < L.length) : tok L i = L[i] := by
  unfold tok
  rw [List.getD_eq_getElem?_getD, List.getElem?_eq_getElem hi]
  rfl
theorem scan_place (i : Nat) (hi : i < L.length) : 0 ≤ (tok L i).p ∧ (tok L i).p ≤ s.length := by
  have hu := up_go _ _ _ _ (Nat.le_refl _) (Nat.zero_le _) (scan_is h) i hi
  rw [tok_get i hi]
  exact ⟨hu.1, hu.2.1⟩
theorem scan_upT : Up L (L.length - 1) := by
  have hg := scan_good h
  refine ⟨hg.endk, fun i j h1 h2 => ?_⟩
  have hp := hg.pos
  rw [tok_get i (by omega), tok_get j (by omega)]
  exact (up_go _ _ _ _ (Nat.le_refl _) (Nat.zero_le _) (scan_is h) i (by omega)).2.2 j (by omega) h1
theorem scan_cutT (i : Nat) (hi : i < L.length) : scanQ (s.take (tok L i).p.toNat) = .ok (L.take i ++ [⟨8, [], 0, 0, 0, (tok L i).p⟩]) := by
  obtain ⟨rm, h1⟩ := cut_go _ _ _ _ (Nat.le_refl _) (Nat.zero_le _) (scan_is h) i hi
  have hp := scan_place h i hi
  have hl := scan_ok_len h
  have h2 := h1 [] (.inl rfl)
  rw [scan_toks (by simp; omega)]
  rw [tok_get i hi] at hp ⊢
  unfold cutB at h2
  rw [List.append_nil, List.drop_zero] at h2
  rw [h2, toks]
  show Except.ok _ = _
  rw [Int.toNat_of_nonneg hp.1]
theorem scan_moreT (i : Nat) (hi : i < L.length) (R : By) {M : List Tk} (hM : scanQ (s.take (tok L i).p.toNat ++ 10 :: R) = .ok M) : ∃ M', M = L.take i ++ M' := by
  obtain ⟨rm, h1⟩ := cut_go _ _ _ _ (Nat.le_refl _) (Nat.zero_le _) (scan_is h) i hi
  have h2 := h1 (10 :: R) (.inr ⟨R, rfl⟩)
  rw [scan_toks (scan_ok_len hM), tok_get i hi] at hM
  unfold cutB at h2
  rw [List.drop_zero, hM] at h2
  obtain ⟨z, _, h3⟩ := map_ok2 h2.symm
  exact ⟨z, h3.symm⟩
theorem agr_cut (i : Nat) (hi : i < L.length) : Agr L (L.take i ++ [⟨8, [], 0, 0, 0, (tok L i).p⟩]) i (L.length - 1) ∧ (tok (L.take i ++ [⟨8, [], 0, 0, 0, (tok L i).p⟩]) i).k = 8 := by
  have hlen : (L.take i).length = i := by simp; omega
  have he : tok (L.take i ++ [⟨8, [], 0, 0, 0, (tok L i).p⟩]) i = ⟨8, [], 0, 0, 0, (tok L i).p⟩ := by
    unfold tok
    rw [List.getD_eq_getElem?_getD, List.getElem?_append_right (by omega), hlen, Nat.sub_self]
    rfl
  refine ⟨⟨fun j hj => ?_, .inr (by rw [he]), by rw [he], by omega, scan_upT h⟩, by rw [he]⟩
  unfold tok
  rw [List.getD_eq_getElem?_getD, List.getElem?_append_left (by omega), List.getElem?_take_of_lt hj, List.getD_eq_getElem?_getD]
theorem agr_more (k : Nat) (hk : k < L.length) (M' : List Tk) : Agr L (L.take (k + 1) ++ M') k (L.length - 1) ∧ tok (L.take (k + 1) ++ M') k = tok L k := by
  have hlen : (L.take (k + 1)).length = k + 1 := by simp; omega
  have he : ∀ j, j ≤ k → tok (L.take (k + 1) ++ M') j = tok L j := fun j hj => by
    unfold tok
    rw [List.getD_eq_getElem?_getD, List.getElem?_append_left (by omega), List.getElem?_take_of_lt (by omega), List.getD_eq_getElem?_getD]
  exact ⟨⟨fun j hj => he j (by omega), .inl (he k (Nat.le_refl _)), by rw [he k (Nat.le_refl _)], by omega, scan_upT h⟩, he k (Nat.le_refl _)⟩
end
end Go.Proofs.YtlmhofjiobmodaaGreatDoor
/-
  What is told of a source, of what is cut off of it, and of what is put behind it. Of no program: no condition.
-/
namespace Go.Proofs.YtlmhofjiobmodaaGreatDoor
open Go.RowKit Go.Lib

theorem map_errT {α β ε : Type} {f : α → β} {r : Except ε α} {y : ε} (h : r.map f = .error y) : r = .error y := by
  cases r with
  | error e => exact congrArg _ (Except.error.inj h)
  | ok z => cases h
theorem endT_err {k : Int} {run : By} {e : Int} (h : endT k run = .error e) : e = 81 ∨ e = 82 := by
  unfold endT at h
  split at h
  · split at h
    · exact .inr (Except.error.inj h).symm
    · cases h
  · split at h
    · split at h
      · exact .inr (Except.error.inj h).symm
      · cases h
    · split at h
      · cases h
      · exact .inl (Except.error.inj h).symm
theorem endT_kind {k : Int} {run : By} {x : Tk} (h : endT k run = .ok x) : x.k ≠ 8 := by
  unfold endT at h
  split at h
  · split at h
    · cases h
    · rw [← Except.ok.inj h]
      show (if wdB run = true then (1 : Int) else 2) ≠ 8
      split <;> decide
  · split at h
    · split at h
      · cases h
      · rw [← Except.ok.inj h]
        show (3 : Int) ≠ 8
        decide
    · split at h
      · rename_i z hz
        rw [← Except.ok.inj h]
        rcases dgT_kind hz with e | e <;> rw [e] <;> decide
      · cases h
theorem one_told (r : By) : match oneL r with
    | .ok (x, _) => x.k ≠ 8
    | .error e => 80 ≤ e ∧ e < 84 := by
  have run : ∀ (k : Int) (u : By) (n : Nat), match (endT k u).map (fun z => (z, n)) with
      | .ok (x, _) => x.k ≠ 8
      | .error e => 80 ≤ e ∧ e < 84 := fun k u n => by
    cases h : endT k u with
    | ok x => exact endT_kind h
    | error e => rcases endT_err h with rfl | rfl <;> exact ⟨by decide, by decide⟩
  cases r with
  | nil => exact ⟨by decide, by decide⟩
  | cons c t =>
    rw [oneL]
    by_cases h1 : smB (bI c) = true
    · rw [if_pos h1]; exact run _ _ _
    · rw [if_neg h1]
      by_cases h2 : grB (bI c) = true
      · rw [if_pos h2]; exact run _ _ _
      · rw [if_neg h2]
        by_cases h3 : dgB (bI c) = true
        · rw [if_pos h3]; exact run _ _ _
        · rw [if_neg h3]
          by_cases h4 : c = 34
          · rw [if_pos h4]
            cases hx : txL [] t with
            | none => exact ⟨by decide, by decide⟩
            | some p => exact (show (6 : Int) ≠ 8 by decide)
          · rw [if_neg h4]
            by_cases h5 : sgB (bI c) = true
            · rw [if_pos h5]; exact (show (7 : Int) ≠ 8 by decide)
            · rw [if_neg h5]; exact ⟨by decide, by decide⟩
theorem toks_told : ∀ (n : Nat) (rm : Bool) (i : Nat) (r : By), r.length ≤ n → match toks rm i r with
    | .ok L => ∀ j (hj : j + 1 < L.length), L[j].k ≠ 8
    | .error (e, _) => 80 ≤ e ∧ e < 84 := by
  intro n
  induction n with
  | zero =>
    intro rm i r h
    obtain rfl := List.eq_nil_of_length_eq_zero (Nat.le_zero.1 h)
    rw [toks]
    intro j hj
    simp at hj
  | succ n ih =>
    intro rm i r h
    cases r with
    | nil =>
      rw [toks]
      intro j hj
      simp at hj
    | cons c t =>
      have ht : t.length ≤ n := by simpa using h
      rw [toks.eq_def]
      simp only
      by_cases h1 : rm = true
      · rw [if_pos h1]
        by_cases h2 : c = 10
        · rw [if_pos h2]; exact ih _ _ _ ht
        · rw [if_neg h2]; exact ih _ _ _ ht
      · rw [if_neg h1]
        by_cases h2 : blB (bI c) = true
        · rw [if_pos h2]; exact ih _ _ _ ht
        · rw [if_neg h2]
          by_cases h3 : c = 35
          · rw [if_pos h3]; exact ih _ _ _ ht
          · rw [if_neg h3]
            have ho := one_told (c :: t)
            cases hx : oneL (c :: t) with
            | error e =>
              rw [hx] at ho
              exact ho
            | ok p =>
              obtain ⟨x, m⟩ := p
              rw [hx] at ho
              simp only
              have hr := ih false (i + (m - 1) + 1) (t.drop (m - 1)) (by rw [List.length_drop]; omega)
              cases hy : toks false (i + (m - 1) + 1) (t.drop (m - 1)) with
              | error e =>
                rw [hy] at hr
                exact hr
              | ok L =>
                rw [hy] at hr
                show ∀ j (hj : j + 1 < ({ x with p := (i : Int) } :: L).length), ({ x with p := (i : Int) } :: L)[j].k ≠ 8
                intro j hj
                cases j with
                | zero => exact ho
                | succ j => exact hr j (by simpa using hj)
/-- What is told: nothing, or what is wrong and where. -/
def parC (s : By) : Int × Int := match parsQ s with
  | .ok _ => (0, 0)
  | .error x => x
def codeR (r : PR (List IT)) : Int × Int := match r with
  | .ok _ _ => (0, 0)
  | .bad e p => (e, p)
  | .out => (0, 0)
theorem parC_scan {s : By} {c n : Int} (h : scanQ s = .error (c, n)) : parC s = (c, n) ∧ 80 ≤ c ∧ c < 90 := by
  refine ⟨by unfold parC parsQ; rw [h], ?_⟩
  by_cases hl : s.length ≤ 8000
  · have := toks_told _ false 0 s (Nat.le_refl _)
    rw [← scan_toks hl, h] at this
    exact ⟨this.1, by have := this.2; omega⟩
  · rw [scan_long (by omega)] at h
    obtain ⟨rfl, _⟩ := Prod.mk.inj (Except.error.inj h)
    exact ⟨by decide, by decide⟩
section
variable {s : By} {L : List Tk} (h : scanQ s = .ok L)
include h
theorem parC_of {r : PR (List IT)} (hr : parseP L = r) : parC s = codeR r := by
  unfold parC parsQ codeR
  rw [h]
  simp only
  rw [hr]
  cases r <;> rfl
theorem parC_some : parC s = (0, 0) ∨ ∃ e k, parseP L = .bad e (tok L k).p ∧ parC s = (e, (tok L k).p) ∧ (e = 90 ∨ e = 91 ∨ e = 92) ∧ k < L.length := by
  cases hp : parseP L with
  | ok M i => exact .inl (parC_of h hp)
  | bad e p =>
    obtain ⟨h1, i, h2, rfl⟩ := parse_at (scan_upT h) hp
    have := (scan_good h).pos
    exact .inr ⟨e, i, rfl, parC_of h hp, h1, by omega⟩
  | out => exact absurd hp parseP_ne
theorem kind_not (k : Nat) (hk : k + 1 < L.length) : (tok L k).k ≠ 8 := by
  have := toks_told _ false 0 s (Nat.le_refl _)
  rw [← scan_toks (scan_ok_len h), h] at this
  rw [tok_get k (by omega)]
  exact this k hk
variable {e : Int} {k : Nat} (hk : k < L.length)
include hk
theorem parC_cut (he : e = 90 ∨ e = 92) (hp : parseP L = .bad e (tok L k).p) : parC (s.take (tok L k).p.toNat) = (0, 0) ∨ parC (s.take (tok L k).p.toNat) = (90, (tok L k).p) := by
  obtain ⟨hA, h8⟩ := agr_cut h k hk
  rcases parse_cut hA h8 he hp with ⟨M, i, e1⟩ | e1
  · exact .inl (parC_of (scan_cutT h k hk) e1)
  · exact .inr (parC_of (scan_cutT h k hk) e1)
theorem parC_more (hk1 : k + 1 < L.length) (he : e = 90 ∨ e = 92) (hp : parseP L = .bad e (tok L k).p) (R : By) : (∃ x, scanQ (s.take (tok L (k + 1)).p.toNat ++ 10 :: R) = .error x) ∨ parC (s.take (tok L (k + 1)).p.toNat ++ 10 :: R) = (e, (tok L k).p) := by
  cases hM : scanQ (s.take (tok L (k + 1)).p.toNat ++ 10 :: R) with
  | error x => exact .inl ⟨x, rfl⟩
  | ok M =>
    obtain ⟨M', rfl⟩ := scan_moreT h (k + 1) hk1 R hM
    obtain ⟨hA, hkk⟩ := agr_more h k hk M'
    exact .inr (parC_of hM (parse_ahead hA hkk (kind_not h k hk1) he hp))
omit hk in
theorem parC_deep (hp : parseP L = .bad 91 (tok L k).p) (i : Nat) (hi : i < L.length) : parC (s.take (tok L i).p.toNat) = (0, 0) ∨ (∃ m, parC (s.take (tok L i).p.toNat) = (90, m)) ∨ ∃ m, parC (s.take (tok L i).p.toNat) = (91, m) ∧ m ≤ (tok L k).p := by
  obtain ⟨hA, h8⟩ := agr_cut h i hi
  rcases parse_deep hA h8 hp with ⟨M, j, e1⟩ | ⟨m, e1⟩ | ⟨m, e1, e2⟩
  · exact .inl (parC_of (scan_cutT h i hi) e1)
  · exact .inr (.inl ⟨m, parC_of (scan_cutT h i hi) e1⟩)
  · exact .inr (.inr ⟨m, parC_of (scan_cutT h i hi) e1, e2⟩)
omit hk in
theorem parC_semi (hp : parseP L = .bad 91 (tok L k).p) (q : Nat) (hkq : k ≤ q) (hq : q + 1 < L.length) (hs : isT L 7 [59] q = true) : parC (s.take (tok L (q + 1)).p.toNat) = (91, (tok L k).p) := by
  obtain ⟨hA, hkk⟩ := agr_more h q (by omega) [⟨8, [], 0, 0, 0, (tok L (q + 1)).p⟩]
  exact parC_of (scan_cutT h (q + 1) hq) (parse_semi hA hkk hs hkq hp)
omit hk in
theorem parC_semi2 (hp : parseP L = .bad 91 (tok L k).p) (q : Nat) (hkq : k ≤ q) (hq : q + 1 < L.length) (hs : isT L 7 [59] q = true) (R : By) : (∃ x, scanQ (s.take (tok L (q + 1)).p.toNat ++ 10 :: R) = .error x) ∨ parC (s.take (tok L (q + 1)).p.toNat ++ 10 :: R) = (91, (tok L k).p) := by
  cases hM : scanQ (s.take (tok L (q + 1)).p.toNat ++ 10 :: R) with
  | error x => exact .inl ⟨x, rfl⟩
  | ok M =>
    obtain ⟨M', rfl⟩ := scan_moreT h (q + 1) hq R hM
    obtain ⟨hA, hkk⟩ := agr_more h q (by omega) M'
    exact .inr (parC_of hM (parse_semi hA hkk hs hkq hp))
end
end Go.Proofs.YtlmhofjiobmodaaGreatDoor
/-
  Parse and Scan by what they tell; the statement's small words. Condition: what the library's variable holds lies below.
-/
namespace Go.Proofs.YtlmhofjiobmodaaGreatDoor
open Go.RowKit Go.Lib

theorem parse_code (s : By) (w : World) (hev : ErrV w.heap.size w) : Calls Tryz.prog 11 #[.string ⟨s.toArray⟩] w fun e w' => (∃ ao n cp, e = .returned (.tuple #[.agg #[.slice ao n cp], .int .i64 (parC s).1, .int .i64 (parC s).2])) ∧ Below w.heap.size w w' := by
  refine (parse_any s w hev).mono ?_
  rintro e w' ⟨h1, h2⟩
  refine ⟨?_, h2⟩
  unfold ParP at h1
  unfold parC
  cases hp : parsQ s with
  | error x =>
    rw [hp] at h1
    exact ⟨none, 0, 0, h1⟩
  | ok L =>
    rw [hp] at h1
    obtain ⟨v, cs, bs, h1, h3⟩ := h1
    obtain ⟨ao, cp, hv, _⟩ := own_shape h3.row
    subst hv
    exact ⟨ao, _, cp, h1⟩
theorem scan_code (s : By) (w : World) (hev : ErrV w.heap.size w) : Calls Tryz.prog 16 #[.string ⟨s.toArray⟩] w fun e w' => (∃ ao n cp c q, e = .returned (.tuple #[.slice ao n cp, .int .i64 c, .int .i64 q]) ∧ ((∃ x, scanQ s = .error x) → c ≠ 0) ∧ (∀ L, scanQ s = .ok L → c = 0)) ∧ Below w.heap.size w w' := by
  cases hs : scanQ s with
  | error x =>
    refine (scan_errc (c := x.1) (n := x.2) hs w hev).mono ?_
    rintro e w' ⟨h1, h2⟩
    exact ⟨⟨none, 0, 0, x.1, x.2, h1, fun _ => scan_err_ne (n := x.2) hs, fun L h => by cases h⟩, h2⟩
  | ok L =>
    refine (scan_okc hs w hev).mono ?_
    rintro e w' ⟨⟨tv, h1, h3⟩, h2⟩
    obtain ⟨ao, cp, hv, _⟩ := own_shape h3
    subst hv
    refine ⟨⟨ao, _, cp, 0, 0, h1, ?_, fun _ _ => rfl⟩, h2⟩
    rintro ⟨x, h⟩
    cases h
set_option maxHeartbeats 4000000 in
theorem add2_any (n m : Int) (w : World) (h0 : 0 ≤ n) (h1 : n ≤ 281474976710656) (h2 : 0 ≤ m) (h3 : m ≤ 281474976710656) : Calls Tryz.prog 9 #[.int .i64 n, .int .i64 m] w fun e w' => e = .returned (.int .i64 (addI n m)) ∧ w' = w := by
  have f1 : IntKind.i64.wrap (2147483647 - n) = 2147483647 - n := by simp [IntKind.wrap, IntKind.bits, IntKind.signed]; omega
  have f2 : IntKind.i64.wrap (n + m) = n + m := by simp [IntKind.wrap, IntKind.bits, IntKind.signed]; omega
  by_cases h : 2147483647 - n < m
  · have e : addI n m = 2147483648 := by unfold addI; rw [if_pos h]
    rw [e]
    go_enter Tryz.func9, Tryz.ntmps9
    go_wp2
    go_ret
    exact ⟨rfl, rfl⟩
  · have e : addI n m = n + m := by unfold addI; rw [if_neg h]
    rw [e]
    go_enter Tryz.func9, Tryz.ntmps9
    go_wp2
    go_ret
    exact ⟨rfl, rfl⟩
def thrI (n : Int) : Int := addI n (addI n n)
theorem thrI_in {n : Int} (h : 0 ≤ n) : 0 ≤ thrI n ∧ thrI n ≤ 2147483648 := addI_in h (addI_in h h).1
theorem thrI_le {n : Int} (h0 : 0 ≤ n) (h : thrI n ≤ 2147483647) : n ≤ 2147483647 := by
  unfold thrI addI at h
  split at h <;> split at h <;> omega
set_option maxRecDepth 100000 in
theorem thrice_any (n : Int) (w : World) (h0 : 0 ≤ n) (h1 : n ≤ 281474976710656) : Calls Tryz.prog 8 #[.int .i64 n] w fun e w' => e = .returned (.int .i64 (thrI n)) ∧ w' = w := by
  have HA := hide (fun w => add2_any n n w h0 h1 h0 h1)
  have HB := hide (fun w => add2_any n (addI n n) w h0 h1 (addI_in h0 h0).1 (by have := (addI_in h0 h0).2; omega))
  unfold thrI
  generalize addI n (addI n n) = b at *
  generalize addI n n = a at *
  clear h0 h1
  go_enter Tryz.func8, Tryz.ntmps8
  go_wp2_with (first | (go_at_call 9; refine (HA.out _).mono ?_; clear HA; rintro e wz ⟨rfl, hwz⟩; have hwz := hwz.symm; subst hwz) | (go_at_call 9; refine (HB.out _).mono ?_; rintro e wz ⟨rfl, hwz⟩; have hwz := hwz.symm; subst hwz))
  go_ret
  exact ⟨rfl, rfl⟩
/-- A token's cells. -/
theorem tk_cells {w : World} {base g cap : Nat} {L : List Tk} (h : w.ownsRow base 49 6 (.slice (some ⟨g, 0, none⟩) L.length cap) L.length (tkC L)) {i : Nat} (hi : i < L.length) :
    w.cell? ⟨g, i * 6, none⟩ = some (.int .i64 (tok L i).k) ∧ w.cell? ⟨g, i * 6 + 1, none⟩ = some (.string ⟨(tok L i).t.toArray⟩) ∧ w.cell? ⟨g, i * 6 + 5, none⟩ = some (.int .i64 (tok L i).p) := by
  have hc : ∀ r, r < 6 → w.cell? ⟨g, i * 6 + r, none⟩ = (tkV (tok L i)).toList[r]? := fun r hr => by
    rw [World.ownsRow.cellAt h (i * 6 + r) (by omega), tkC_get L i r hi hr]
  exact ⟨hc 0 (by omega), hc 1 (by omega), hc 5 (by omega)⟩
theorem cut_str (s : By) (k : Nat) : (⟨s.toArray⟩ : ByteArray).extract 0 k = ⟨(s.take k).toArray⟩ := by
  rw [ext_cut]
  unfold cutB
  rw [List.drop_zero]
theorem cat_str (s R : By) (k : Nat) : (⟨s.toArray⟩ : ByteArray).extract 0 k ++ ⟨#[10]⟩ ++ ⟨R.toArray⟩ = ⟨(s.take k ++ 10 :: R).toArray⟩ := by
  rw [cut_str]
  apply ByteArray.ext
  simp
end Go.Proofs.YtlmhofjiobmodaaGreatDoor
/-
  deeper answers true of a source that is too deep at its k-th token. Conditions: what the library's variable holds lies below; texts no longer than a process can hold.
-/
namespace Go.Proofs.YtlmhofjiobmodaaGreatDoor
open Go.RowKit Go.Lib

set_option maxRecDepth 100000 in
set_option maxHeartbeats 8000000 in
theorem deeper_any {s R : By} {L : List Tk} {k base g cap : Nat} {w : World} (h : scanQ s = .ok L) (hk : k < L.length) (hp : parseP L = .bad 91 (tok L k).p) (hr : R.length ≤ 2147483647) (hev : ErrV w.heap.size w) (ho : w.ownsRow base 49 6 (.slice (some ⟨g, 0, none⟩) L.length cap) L.length (tkC L)) :
    Calls Tryz.prog 26 #[.string ⟨s.toArray⟩, .slice (some ⟨g, 0, none⟩) L.length cap, .int .i64 (k : Nat), .string ⟨R.toArray⟩] w fun e w' => e = .returned (.bool true) ∧ Below w.heap.size w w' := by
  have hsz := bs_size s
  have hsl := scan_ok_len h
  have hl8 := (scan_good h).few
  have HPL : Hid (∀ i, i < L.length → ∃ n : Nat, (tok L i).p = (n : Int) ∧ n ≤ s.length) := fun i hi => by
    obtain ⟨h1, h2⟩ := scan_place h i hi
    exact ⟨(tok L i).p.toNat, by omega, by omega⟩
  have HCE : Hid (∀ V, Below w.heap.size w V → ∀ i, i < L.length → V.cell? ⟨g, i * 6, none⟩ = some (.int .i64 (tok L i).k) ∧ V.cell? ⟨g, i * 6 + 1, none⟩ = some (.string ⟨(tok L i).t.toArray⟩) ∧ V.cell? ⟨g, i * 6 + 5, none⟩ = some (.int .i64 (tok L i).p)) := fun V y i hi => tk_cells (own_below ho y) hi
  have HPC : Hid (∀ (V : World) (n : Nat), Below w.heap.size w V → Calls Tryz.prog 11 #[.string ((⟨s.toArray⟩ : ByteArray).extract 0 n)] V fun e w' => (∃ ao m cp, e = .returned (.tuple #[.agg #[.slice ao m cp], .int .i64 (parC (s.take n)).1, .int .i64 (parC (s.take n)).2])) ∧ Below V.heap.size V w') := fun V n y => by
    rw [cut_str]
    exact parse_code _ V (hev.up y)
  have HDP := hide (fun i hi => parC_deep h hp i hi)
  have HSM := hide (fun q h1 h2 h3 => parC_semi h hp q h1 h2 h3)
  have HS2 := hide (fun q h1 h2 h3 => parC_semi2 h hp q h1 h2 h3 R)
  have HEV := hide hev
  have HSL := hide hsl
  have HL8 := hide hl8
  have HKL := hide hk
  have HRL := hide hr
  clear h hp hev ho hsl hl8 hr
  obtain ⟨N, hN, hN2⟩ := HPL.out k hk
  rw [hN] at HDP HSM HS2
  obtain ⟨c0, c1, c5⟩ := HCE.out w (Below.refl _ _) k hk
  rw [hN] at c5
  have hk' : (k : Int) < (L.length : Int) := by omega
  clear c0 c1 hk hN hN2
  go_enter Tryz.func26, Tryz.ntmps26
  go_upto_region 2 with fail
  clear c5 hk'
  have f300 : IntKind.i64.wrap ((k : Int) + 300) = (k : Int) + 300 := by have := HL8.out; have := HKL.out; simp [IntKind.wrap, IntKind.bits, IntKind.signed]; omega
  go_wp2
  go_loopg [10, 11, 12, 13] (L.length + 1) (fun gg x10 x11 x12 x13 wr => ∃ i : Nat, x10 = .int .i64 (i : Nat) ∧ i ≤ L.length ∧ Hid (Below w.heap.size w wr) ∧ L.length - i < gg)
  case atStart => exact ⟨k, rfl, by have := HKL.out; omega, hide (Below.refl _ _), by omega⟩
  case round =>
    obtain ⟨i, rfl, hi, XR, hg⟩ := hrel
    have HG := hide hg
    clear hg
    by_cases hgo : i < L.length ∧ i < k + 300
    · have h1 : (i : Int) < (L.length : Int) := by omega
      have h2 : (i : Int) < (k : Int) + 300 := by omega
      obtain ⟨n, hn, hn2⟩ := HPL.out i hgo.1
      obtain ⟨_, _, c5⟩ := HCE.out wr XR.out i hgo.1
      rw [hn] at c5
      have HD := hide (HDP.out i hgo.1)
      rw [hn, Int.toNat_natCast] at HD
      have HP := hide (HPC.out wr n XR.out)
      have hn3 : (n : Int) ≤ (s.length : Int) := by omega
      have HI := hide hgo
      clear hgo hn hn2
      have fw : IntKind.i64.wrap ((i : Int) + 1) = ((i + 1 : Nat) : Int) := by have := HL8.out; have := HI.out; simp [IntKind.wrap, IntKind.bits, IntKind.signed]; omega
      go_upto_region 5 with fail
      go_wp2_with (fail)
      refine HP.out.mono ?_
      rintro e w3 ⟨⟨ao, m, cp, rfl⟩, x3⟩
      have X3 := hide (bt (bt XR.out x3 (Nat.le_refl _)) (show Below w3.heap.size w3 (w3.alloc (.cells #[.slice ao m cp] 36)) from al (Below.refl _ _) _) (Nat.le_refl _))
      clear x3 HP c5
      rcases HD.out with e0 | ⟨q, e0⟩ | ⟨q, e0, hq⟩
      · rw [e0]
        go_wp2
        go_roundg (L.length - (i + 1) + 1)
        case measure => have := HG.out; have := HI.out; omega
        case rel => exact ⟨i + 1, by first | rfl | (rw [show wrap64 ((i : Int) + 1) = ((i + 1 : Nat) : Int) from fw]), by have := HI.out; omega, X3, by omega⟩
      · rw [e0]
        go_wp2
        go_roundg (L.length - (i + 1) + 1)
        case measure => have := HG.out; have := HI.out; omega
        case rel => exact ⟨i + 1, by first | rfl | (rw [show wrap64 ((i : Int) + 1) = ((i + 1 : Nat) : Int) from fw]), by have := HI.out; omega, X3, by omega⟩
      · rw [e0]
        have hq2 : ¬ (N : Int) < q := by omega
        go_wp2
        go_roundg (L.length - (i + 1) + 1)
        case measure => have := HG.out; have := HI.out; omega
        case rel => exact ⟨i + 1, by first | rfl | (rw [show wrap64 ((i : Int) + 1) = ((i + 1 : Nat) : Int) from fw]), by have := HI.out; omega, X3, by omega⟩
    · have hex : (¬ (i : Int) < (L.length : Int) ∧ True) ∨ ((i : Int) < (L.length : Int) ∧ ¬ (i : Int) < (k : Int) + 300) := by
        by_cases h1 : (i : Int) < (L.length : Int)
        · exact .inr ⟨h1, by omega⟩
        · exact .inl ⟨h1, trivial⟩
      clear hgo hi HG
      rcases hex with ⟨h1, h2⟩ | ⟨h1, h2⟩
      all_goals
        go_wp2
        clear h1 h2
        go_loopg [14] (L.length + 1) (fun gg x14 wr => ∃ q : Nat, x14 = .int .i64 (q : Nat) ∧ k ≤ q ∧ q < L.length ∧ Hid (Below w.heap.size w wr) ∧ L.length - q < gg)
        case atStart => exact ⟨k, rfl, by omega, HKL.out, XR, by omega⟩
        case round =>
          clear XR
          obtain ⟨q, rfl, hq1, hq2, XR, hg⟩ := hrel
          have HG := hide hg
          clear hg
          have HQ := hide hq1
          have HQL := hide hq2
          clear hq1 hq2
          have fw : IntKind.i64.wrap ((q : Int) + 1) = ((q + 1 : Nat) : Int) := by have := HL8.out; have := HQL.out; simp [IntKind.wrap, IntKind.bits, IntKind.signed]; omega
          obtain ⟨c0, c1, _⟩ := HCE.out _ XR.out q HQL.out
          by_cases hlt : q + 1 < L.length
          · have hlt' : ((q + 1 : Nat) : Int) < (L.length : Int) := by omega
            have HLT := hide hlt
            clear hlt
            by_cases hs : isT L 7 [59] q = true
            · have HSE := hide hs
              unfold isT at hs
              simp only [Bool.and_eq_true, beq_iff_eq] at hs
              rw [hs.1] at c0
              rw [hs.2] at c1
              clear hs
              obtain ⟨n1, hn1, hn2⟩ := HPL.out (q + 1) HLT.out
              obtain ⟨_, _, c5⟩ := HCE.out _ XR.out (q + 1) HLT.out
              have HS1 := hide (HSM.out q HQ.out HLT.out HSE.out)
              have HSS := hide (HS2.out q HQ.out HLT.out HSE.out)
              rw [hn1] at c5 HS1 HSS
              rw [Int.toNat_natCast] at HS1 HSS
              have HP := hide (HPC.out _ n1 XR.out)
              rw [HS1.out] at HP
              have hn3 : (n1 : Int) ≤ (s.length : Int) := by omega
              have hge : ¬ (L.length : Int) ≤ ((q + 1 : Nat) : Int) := by omega
              have HN1 := hide hn1
              have HN2 := hide hn2
              clear hn1 hn2 HS1 HG HDP HSM
              go_wp2_with (fail)
              refine HP.out.mono ?_
              rintro e w3 ⟨⟨ao, m, cp, rfl⟩, x3⟩
              have X3 := hide (bt (bt XR.out x3 (Nat.le_refl _)) (show Below w3.heap.size w3 (w3.alloc (.cells #[.slice ao m cp] 36)) from al (Below.refl _ _) _) (Nat.le_refl _))
              clear x3 HP c5 c0 c1
              go_upto_region 14 with fail
              generalize w3.alloc (.cells #[.slice ao m cp] 36) = w4 at *
              obtain ⟨_, _, c5⟩ := HCE.out w4 X3.out (q + 1) HLT.out
              rw [HN1.out] at c5
              have hsl := HSL.out
              have hsR := bs_size R
              have hr := HRL.out
              have hnl := HN2.out
              have hex : ((⟨s.toArray⟩ : ByteArray).extract 0 n1).size = n1 := by
                rw [cut_str, bs_size, List.length_take]
                omega
              obtain ⟨T, hT⟩ : ∃ T : ByteArray, T = (⟨s.toArray⟩ : ByteArray).extract 0 n1 ++ ⟨#[10]⟩ ++ ⟨R.toArray⟩ := ⟨_, rfl⟩
              have HTT := hide hT
              have HSC : Hid (Calls Tryz.prog 16 #[.string T] w4 fun e w' => (∃ ao n cp c q, e = .returned (.tuple #[.slice ao n cp, .int .i64 c, .int .i64 q]) ∧ (c = 0 → parC (s.take n1 ++ 10 :: R) = (91, (N : Int)))) ∧ Below w4.heap.size w4 w') := by
                unfold Hid
                rw [hT, cat_str]
                refine (scan_code _ w4 (HEV.out.up X3.out)).mono ?_
                rintro e w' ⟨⟨ao, n, cp, c, q', h1, h2, h3⟩, h4⟩
                refine ⟨⟨ao, n, cp, c, q', h1, fun hc => ?_⟩, h4⟩
                rcases HSS.out with hx | hx
                · exact absurd hc (h2 hx)
                · exact hx
              have HPT : Hid (∀ V, Below w4.heap.size w4 V → Calls Tryz.prog 11 #[.string T] V fun e w' => (∃ ao m cp, e = .returned (.tuple #[.agg #[.slice ao m cp], .int .i64 (parC (s.take n1 ++ 10 :: R)).1, .int .i64 (parC (s.take n1 ++ 10 :: R)).2])) ∧ Below V.heap.size V w') := fun V y => by
                rw [hT, cat_str]
                exact parse_code _ V ((HEV.out.up X3.out).up y)
              clear hT
              go_upto_region 15 with fail
              rw [← HTT.out]
              clear HTT hex c5
              go_upto_region 16 with (go_at_call 16; refine HSC.out.mono ?_; rintro e w5 ⟨⟨ao5, n5, cp5, c, q5, rfl, hc⟩, x5⟩; have HC := hide hc; have X5 := hide x5; clear x5 hc)
              clear HSC
              have HPZ := hide (HPT.out w5 X5.out)
              generalize hpc : parC (s.take n1 ++ 10 :: R) = pc at *
              clear hpc HPT
              go_wp2_with (fail)
              refine HPZ.out.mono ?_
              rintro e w6 ⟨⟨ao6, n6, cp6, rfl⟩, x6⟩
              have X6 := hide (bt (bt X3.out X5.out (Nat.le_refl _)) (bt x6 (show Below w6.heap.size w6 (w6.alloc (.cells #[.slice ao6 n6 cp6] 36)) from al (Below.refl _ _) _) (Nat.le_refl _)) (Nat.le_refl _))
              clear x6 HPZ
              by_cases hc0 : c = 0
              · have := HC.out hc0
                subst hc0
                subst this
                go_wp2
                go_ret
                exact ⟨rfl, X6.out⟩
              · have hcb : (c != 0) = true := by simpa using hc0
                go_wp2
                go_ret
                exact ⟨rfl, X6.out⟩
            · unfold isT at hs
              generalize (tok L q).k = kk at *
              generalize (tok L q).t = tx at *
              by_cases h7 : kk = 7
              · subst h7
                have hne : tx ≠ [59] := fun e => hs (by rw [e]; rfl)
                have hb1 : (tx == [59]) = false := by simpa using hne
                have hb2 : (tx != [59]) = true := by simpa using hne
                clear hs hne
                go_wp2
                go_roundg (L.length - (q + 1) + 1)
                case measure => have := HG.out; have := HLT.out; omega
                case rel => exact ⟨q + 1, by first | rfl | (rw [show wrap64 ((q : Int) + 1) = ((q + 1 : Nat) : Int) from fw]), by have := HQ.out; omega, HLT.out, XR, by omega⟩
              · have hb : (kk != 7) = true := by simpa using h7
                clear hs
                go_wp2
                go_roundg (L.length - (q + 1) + 1)
                case measure => have := HG.out; have := HLT.out; omega
                case rel => exact ⟨q + 1, by first | rfl | (rw [show wrap64 ((q : Int) + 1) = ((q + 1 : Nat) : Int) from fw]), by have := HQ.out; omega, HLT.out, XR, by omega⟩
          · have hlt' : ¬ ((q + 1 : Nat) : Int) < (L.length : Int) := by omega
            have hge : (L.length : Int) ≤ ((q + 1 : Nat) : Int) := by omega
            clear hlt
            go_wp2
            go_ret
            exact ⟨rfl, XR.out⟩
end Go.Proofs.YtlmhofjiobmodaaGreatDoor
