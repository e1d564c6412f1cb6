/-
  Scan tells the tokens, one after the other. Pure. No condition.
-/
import Derived.Test.YtlmhofjiobmodaaGreatDoorQ41
import Derived.Test.YtlmhofjiobmodaaGreatDoorQ09
import Derived.Test.YtlmhofjiobmodaaGreatDoorQ40
namespace Go.Proofs.YtlmhofjiobmodaaGreatDoor
open Go.RowKit Go.Lib

theorem tw_spec (p : UInt8 → Bool) : ∀ r : By, (∀ c ∈ r.takeWhile p, p c = true) ∧ ∀ h : (r.takeWhile p).length < r.length, p r[(r.takeWhile p).length] ≠ true
  | [] => ⟨fun c hc => (by cases hc), fun h => absurd h (by simp)⟩
  | a :: t => by
    obtain ⟨h1, h2⟩ := tw_spec p t
    by_cases ha : p a = true
    · have e : (a :: t).takeWhile p = a :: t.takeWhile p := by rw [List.takeWhile_cons, if_pos ha]
      constructor
      · intro c hc
        rw [e] at hc
        rcases List.mem_cons.1 hc with rfl | hc
        · exact ha
        · exact h1 c hc
      · intro h
        have h' : (t.takeWhile p).length < t.length := by rw [e] at h; simpa using h
        have := h2 h'
        have e2 : (a :: t)[((a :: t).takeWhile p).length] = t[(t.takeWhile p).length] := by
          simp only [e, List.length_cons, List.getElem_cons_succ]
        rw [e2]
        exact this
    · have e : (a :: t).takeWhile p = [] := by rw [List.takeWhile_cons, if_neg ha]
      constructor
      · intro c hc
        rw [e] at hc
        cases hc
      · intro h
        have e2 : (a :: t)[((a :: t).takeWhile p).length] = a := by
          simp only [e, List.length_nil, List.getElem_cons_zero]
        rw [e2]
        exact ha
theorem tw_take (p : UInt8 → Bool) (r : By) : r.takeWhile p = r.take (r.takeWhile p).length := List.prefix_iff_eq_take.1 (List.takeWhile_prefix p)
theorem tw_le (p : UInt8 → Bool) (r : By) : (r.takeWhile p).length ≤ r.length := (List.takeWhile_prefix p).length_le
theorem tw_cut (p : UInt8 → Bool) (s : By) (i : Nat) : cutB s i (i + ((s.drop i).takeWhile p).length) = (s.drop i).takeWhile p := by
  unfold cutB
  rw [List.drop_take, Nat.add_sub_cancel_left, ← tw_take]
theorem drop_get {s : By} {i j : Nat} (h : i + j < s.length) : (s.drop i)[j]'(by simp; omega) = s[i + j] := by rw [List.getElem_drop]
/-- A run. -/
theorem tok_run {s : By} {i : Nat} (hi : i < s.length) {k : Int} (hk : k = 2 ∨ k = 3 ∨ k = 4) (hg : goB k (bI s[i]) = true) (T : List Tk) :
    scF s (i + 1) ⟨T, k, i, []⟩ = match endT k ((s.drop i).takeWhile fun b => goB k (bI b)) with
      | .ok z => scF s (i + ((s.drop i).takeWhile fun b => goB k (bI b)).length) ⟨T ++ [{ z with p := i }], 0, i, []⟩
      | .error e => .error (e, i) := by
  obtain ⟨h1, h2⟩ := tw_spec (fun b => goB k (bI b)) (s.drop i)
  have hc := tw_cut (fun b => goB k (bI b)) s i
  have hle := tw_le (fun b => goB k (bI b)) (s.drop i)
  have hpos : 1 ≤ ((s.drop i).takeWhile fun b => goB k (bI b)).length := by
    rw [List.drop_eq_getElem_cons hi, List.takeWhile_cons, if_pos hg]
    simp
  generalize hr : ((s.drop i).takeWhile fun b => goB k (bI b)) = run at *
  rw [List.length_drop] at hle
  have hon := run_on (s := s) (x := ⟨T, k, i, []⟩) hk (run.length - 1) (i + 1) (by omega) (fun j hj g1 g2 => by
    show goB k (bI s[j]) = true
    refine h1 s[j] ?_
    rw [← hc]
    unfold cutB
    refine List.mem_iff_getElem.2 ⟨j - i, by simp; omega, ?_⟩
    rw [List.getElem_drop, List.getElem_take]
    congr 1
    omega)
  rw [hon, show i + 1 + (run.length - 1) = i + run.length by omega]
  have hend := run_end (s := s) (i := i + run.length) (x := ⟨T, k, i, []⟩) (by omega) hk (fun h => by
    have := h2 (by rw [List.length_drop]; omega)
    rw [drop_get h] at this
    exact this)
  rw [hend]
  show (match endT k (cutB s (i : Int).toNat (i + run.length)) with | .ok z => _ | .error e => _) = _
  rw [Int.toNat_natCast, hc]
theorem txL_len (acc r : By) : ∀ m n, txL acc r = some (m, n) → 1 ≤ n ∧ n ≤ r.length := by
  fun_induction txL acc r with
  | case1 => intro m n h; cases h
  | case2 acc t ha =>
    intro m n h
    obtain ⟨rfl, rfl⟩ := Prod.mk.inj (Option.some.inj h)
    simp
  | case3 => intro m n h; cases h
  | case4 => intro m n h; cases h
  | case5 acc d u h3 h1 h2 ih =>
    intro m n h
    cases hx : txL (acc ++ [d]) u with
    | none => rw [hx] at h; cases h
    | some p =>
      rw [hx] at h
      obtain ⟨rfl, rfl⟩ := Prod.mk.inj (Option.some.inj h)
      have := ih p.1 p.2 hx
      simp
      omega
  | case6 => intro m n h; cases h
  | case7 acc c t h1 h2 h3 ih =>
    intro m n h
    cases hx : txL (acc ++ [c]) t with
    | none => rw [hx] at h; cases h
    | some p =>
      rw [hx] at h
      obtain ⟨rfl, rfl⟩ := Prod.mk.inj (Option.some.inj h)
      have := ih p.1 p.2 hx
      simp
      omega
  | case8 => intro m n h; cases h
theorem map_ok {α β : Type} {f : α → β} {r : Except Int α} {y : β} (h : r.map f = .ok y) : ∃ z, r = .ok z ∧ f z = y := by
  cases r with
  | error e => cases h
  | ok z => exact ⟨z, rfl, Except.ok.inj h⟩
theorem go_of_gr {r : Int} (h : grB r = true) : goB 3 r = true := by
  unfold goB
  rw [if_neg (by decide), if_pos rfl]
  exact h
theorem go_of_dg {r : Int} (h : dgB r = true) : goB 4 r = true := by
  unfold goB
  rw [if_neg (by decide), if_neg (by decide), h]
  simp
/-- How a token begins. -/
theorem one_cases (c : UInt8) (t : By) :
    (∃ k, (k = 2 ∨ k = 3 ∨ k = 4) ∧ goB k (bI c) = true ∧ oneL (c :: t) = (endT k ((c :: t).takeWhile fun b => goB k (bI b))).map (fun z => (z, ((c :: t).takeWhile fun b => goB k (bI b)).length)) ∧ (∀ x : SS, ∀ q : Int, blB (bI c) ≠ true → c ≠ 35 → beginP x q (bI c) = (0, { x with fr := q, st := k })) ∧ (k = 2 ↔ smB (bI c) = true)) ∨
    (c = 34 ∧ oneL (c :: t) = (match txL [] t with | some (m, n) => .ok (⟨6, m, 0, 0, 0, 0⟩, n + 1) | none => .error 83) ∧ (∀ x : SS, ∀ q : Int, beginP x q (bI c) = (0, { x with fr := q, st := 5 }))) ∨
    (sgB (bI c) = true ∧ oneL (c :: t) = .ok (⟨7, [c], 0, 0, 0, 0⟩, 1) ∧ (∀ x : SS, ∀ q : Int, blB (bI c) ≠ true → c ≠ 35 → beginP x q (bI c) = (0, { x with fr := q, st := 0, tk := x.tk ++ [⟨7, [c], 0, 0, 0, q⟩] }))) ∨
    (oneL (c :: t) = .error 80 ∧ (∀ x : SS, ∀ q : Int, blB (bI c) ≠ true → c ≠ 35 → beginP x q (bI c) = (80, { x with fr := q, st := 0 }))) := by
  have e35 : bI c = 35 ↔ c = 35 := bI_is c 35 (by decide)
  have e34 : bI c = 34 ↔ c = 34 := bI_is c 34 (by decide)
  by_cases h2 : smB (bI c) = true
  · refine .inl ⟨2, .inl rfl, sm_go h2, by rw [oneL, if_pos h2], fun x q hb h5 => ?_, fun _ => h2, fun _ => rfl⟩
    unfold beginP
    rw [if_neg hb, if_neg (fun e => h5 (e35.1 e)), if_pos h2]
  · by_cases h3 : grB (bI c) = true
    · refine .inl ⟨3, .inr (.inl rfl), go_of_gr h3, by rw [oneL, if_neg h2, if_pos h3], fun x q hb h5 => ?_, fun e => absurd e (by decide), fun e => absurd e h2⟩
      unfold beginP
      rw [if_neg hb, if_neg (fun e => h5 (e35.1 e)), if_neg h2, if_pos h3]
    · by_cases h4 : dgB (bI c) = true
      · refine .inl ⟨4, .inr (.inr rfl), go_of_dg h4, by rw [oneL, if_neg h2, if_neg h3, if_pos h4], fun x q hb h5 => ?_, fun e => absurd e (by decide), fun e => absurd e h2⟩
        unfold beginP
        rw [if_neg hb, if_neg (fun e => h5 (e35.1 e)), if_neg h2, if_neg h3, if_pos h4]
      · by_cases h34 : c = 34
        · refine .inr (.inl ⟨h34, by rw [oneL, if_neg h2, if_neg h3, if_neg h4, if_pos h34]; rfl, fun x q => ?_⟩)
          subst h34
          rfl
        · by_cases h7 : sgB (bI c) = true
          · refine .inr (.inr (.inl ⟨h7, by rw [oneL, if_neg h2, if_neg h3, if_neg h4, if_neg h34, if_pos h7], fun x q hb h5 => ?_⟩))
            unfold beginP
            rw [if_neg hb, if_neg (fun e => h5 (e35.1 e)), if_neg h2, if_neg h3, if_neg h4, if_neg (fun e => h34 (e34.1 e)), if_pos h7, rB_bI]
          · refine .inr (.inr (.inr ⟨by rw [oneL, if_neg h2, if_neg h3, if_neg h4, if_neg h34, if_neg h7], fun x q hb h5 => ?_⟩))
            unfold beginP
            rw [if_neg hb, if_neg (fun e => h5 (e35.1 e)), if_neg h2, if_neg h3, if_neg h4, if_neg (fun e => h34 (e34.1 e)), if_neg h7]
theorem one_len {r : By} {x : Tk} {n : Nat} (h : oneL r = .ok (x, n)) : 1 ≤ n ∧ n ≤ r.length := by
  cases r with
  | nil => cases h
  | cons c t =>
    rcases one_cases c t with ⟨k, hk, hg, h1, _⟩ | ⟨hc, h1, _⟩ | ⟨_, h1, _⟩ | ⟨h1, _⟩
    · rw [h1] at h
      obtain ⟨z, _, hz⟩ := map_ok h
      obtain ⟨_, rfl⟩ := Prod.mk.inj hz
      refine ⟨?_, tw_le _ _⟩
      rw [List.takeWhile_cons, if_pos hg]
      simp
    · rw [h1] at h
      cases hx : txL [] t with
      | none => rw [hx] at h; cases h
      | some p =>
        obtain ⟨m, l⟩ := p
        rw [hx] at h
        obtain ⟨_, rfl⟩ := Prod.mk.inj (Except.ok.inj h)
        have := txL_len _ _ _ _ hx
        simp
        omega
    · rw [h1] at h
      obtain ⟨_, rfl⟩ := Prod.mk.inj (Except.ok.inj h)
      simp
    · rw [h1] at h
      cases h
/-- A token at a place. -/
theorem tok_go {s : By} {i : Nat} (hi : i < s.length) (hb : blB (bI s[i]) ≠ true) (h5 : s[i] ≠ 35) (T : List Tk) (f : Int) :
    scF s i ⟨T, 0, f, []⟩ = match oneL (s.drop i) with
      | .ok (x, n) => scF s (i + n) ⟨T ++ [{ x with p := i }], 0, i, []⟩
      | .error e => .error (e, i) := by
  have hz : ∀ r, stepQ s ⟨T, 0, f, []⟩ i r = beginP ⟨T, 0, f, []⟩ i r := fun r => step_zero _ _ _ _ rfl
  rw [List.drop_eq_getElem_cons hi]
  rcases one_cases s[i] (s.drop (i + 1)) with ⟨k, hk, hg, h1, h2, _⟩ | ⟨_, h1, h2⟩ | ⟨_, h1, h2⟩ | ⟨h1, h2⟩
  · rw [h1, scF_step hi ((hz _).trans (h2 _ _ hb h5))]
    show scF s (i + 1) ⟨T, k, i, []⟩ = _
    rw [tok_run hi hk hg T, List.drop_eq_getElem_cons hi]
    cases endT k ((s[i] :: s.drop (i + 1)).takeWhile fun b => goB k (bI b)) with
    | ok z => rfl
    | error e => rfl
  · rw [h1, scF_step hi ((hz _).trans (h2 _ _))]
    show scF s (i + 1) ⟨T, 5, i, []⟩ = _
    rw [text_go (s.length) (i + 1) [] (by omega) (by omega) (by simp)]
    cases txL [] (s.drop (i + 1)) with
    | none => rfl
    | some p =>
      obtain ⟨m, n⟩ := p
      simp only
      congr 1
      omega
  · rw [h1, scF_step hi ((hz _).trans (h2 _ _ hb h5))]
  · rw [h1]
    exact scF_fall hi (by decide) ((hz _).trans (h2 _ _ hb h5))
theorem blank_go {s : By} {i : Nat} (hi : i < s.length) (hb : blB (bI s[i]) = true) (T : List Tk) (f : Int) : scF s i ⟨T, 0, f, []⟩ = scF s (i + 1) ⟨T, 0, i, []⟩ := by
  refine scF_step hi ?_
  rw [step_zero _ _ _ _ rfl]
  unfold beginP
  rw [if_pos hb]
theorem mark_go {s : By} {i : Nat} (hi : i < s.length) (h5 : s[i] = 35) (T : List Tk) (f : Int) : scF s i ⟨T, 0, f, []⟩ = scF s (i + 1) ⟨T, 1, i, []⟩ := by
  refine scF_step hi ?_
  rw [step_zero _ _ _ _ rfl, h5]
  rfl
theorem rem_go {s : By} {i : Nat} (hi : i < s.length) (T : List Tk) (f : Int) : scF s i ⟨T, 1, f, []⟩ = scF s (i + 1) ⟨T, if s[i] = 10 then 0 else 1, f, []⟩ := by
  refine scF_step hi ?_
  have e10 : bI s[i] = 10 ↔ s[i] = 10 := bI_is s[i] 10 (by decide)
  unfold stepQ stepP
  rw [if_neg (by show ¬ (1 : Int) = 4; decide), if_pos rfl]
  by_cases h : s[i] = 10
  · rw [if_pos (e10.2 h), if_pos h]
  · rw [if_neg (fun e => h (e10.1 e)), if_neg h]
theorem end_go (s : By) (T : List Tk) (rm : Bool) (f : Int) : scF s s.length ⟨T, if rm = true then 1 else 0, f, []⟩ = .ok (T ++ [⟨8, [], 0, 0, 0, s.length⟩]) := by
  rw [scF_end]
  cases rm
  · rfl
  · rfl
def addT (T : List Tk) (r : Except (Int × Int) (List Tk)) : Except (Int × Int) (List Tk) := r.map (T ++ ·)
theorem addT_cons (T : List Tk) (x : Tk) (r : Except (Int × Int) (List Tk)) : addT T (r.map fun L => x :: L) = addT (T ++ [x]) r := by
  unfold addT
  cases r with
  | error e => rfl
  | ok L =>
    show Except.ok (T ++ x :: L) = .ok ((T ++ [x]) ++ L)
    rw [List.append_assoc]
    rfl
theorem scF_toks (s : By) : ∀ (k i : Nat) (rm : Bool) (T : List Tk) (f : Int), s.length - i ≤ k → i ≤ s.length → scF s i ⟨T, if rm = true then 1 else 0, f, []⟩ = addT T (toks rm i (s.drop i)) := by
  intro k
  induction k with
  | zero =>
    intro i rm T f hk hi
    obtain rfl : i = s.length := by omega
    rw [end_go, List.drop_length, toks]
    rfl
  | succ k ih =>
    intro i rm T f hk hi
    rcases Nat.lt_or_ge i s.length with h | h
    · rw [List.drop_eq_getElem_cons h, toks.eq_def]
      simp only
      cases rm with
      | true =>
        show scF s i ⟨T, 1, f, []⟩ = _
        rw [rem_go h, if_pos rfl]
        by_cases h10 : s[i] = 10
        · rw [if_pos h10, if_pos h10]
          exact ih (i + 1) false T f (by omega) (by omega)
        · rw [if_neg h10, if_neg h10]
          exact ih (i + 1) true T f (by omega) (by omega)
      | false =>
        show scF s i ⟨T, 0, f, []⟩ = _
        rw [if_neg (by decide)]
        by_cases hb : blB (bI s[i]) = true
        · rw [if_pos hb, blank_go h hb]
          exact ih (i + 1) false T i (by omega) (by omega)
        · rw [if_neg hb]
          by_cases h5 : s[i] = 35
          · rw [if_pos h5, mark_go h h5]
            exact ih (i + 1) true T i (by omega) (by omega)
          · rw [if_neg h5, tok_go h hb h5, List.drop_eq_getElem_cons h]
            cases hO : oneL (s[i] :: s.drop (i + 1)) with
            | error e => rfl
            | ok p =>
              obtain ⟨x, n⟩ := p
              obtain ⟨n1, n2⟩ := one_len hO
              simp only [List.length_cons, List.length_drop] at n2
              simp only
              have hd : (s.drop (i + 1)).drop (n - 1) = s.drop (i + n) := by
                rw [List.drop_drop]
                congr 1
                omega
              rw [hd, show i + (n - 1) + 1 = i + n by omega, addT_cons]
              exact ih (i + n) false _ i (by omega) (by omega)
    · obtain rfl : i = s.length := by omega
      rw [end_go, List.drop_length, toks]
      rfl
/-- Scan tells just these tokens. -/
theorem scan_toks {s : By} (hs : s.length ≤ 8000) : scanQ s = toks false 0 s := by
  have h := scF_toks s s.length 0 false [] 0 (by omega) (by omega)
  rw [List.drop_zero] at h
  have e : scanQ s = scF s 0 x0 := by
    unfold scanQ scF
    rw [if_neg (by omega), List.drop_zero]
  rw [e]
  refine Eq.trans ?_ (h.trans ?_)
  · rfl
  · unfold addT
    cases toks false 0 s with
    | error e => rfl
    | ok L => rfl
end Go.Proofs.YtlmhofjiobmodaaGreatDoor
/-
  What a scanner's tokens are like. Of no program: no condition.
-/
namespace Go.Proofs.YtlmhofjiobmodaaGreatDoor
open Go.RowKit Go.Lib

/-- A token that a scanner may tell. -/
def GdK (t : Tk) : Prop := (t.k = 1 → 2 ≤ t.t.length) ∧ (t.k = 7 → t.t.length = 1)
/-- A scanner's tokens. -/
structure GdT (Ts : List Tk) : Prop where
  pos : 0 < Ts.length
  few : Ts.length ≤ 8001
  endk : (tok Ts (Ts.length - 1)).k = 8
  word : ∀ t ∈ Ts, GdK t
theorem words_two : ∀ r ∈ wordsL, 2 ≤ r.length := by decide
theorem endT_word {k : Int} {run : By} {x : Tk} (h : endT k run = .ok x) : GdK x := by
  unfold endT at h
  split at h
  · split at h
    · cases h
    · cases h
      refine ⟨fun hk => ?_, fun hk => ?_⟩
      · by_cases hw : wdB run = true
        · exact words_two run (by simpa [wdB] using hw)
        · simp [hw] at hk
      · simp at hk
        split at hk <;> cases hk
  · split at h
    · split at h
      · cases h
      · cases h
        exact ⟨fun hk => (by cases hk), fun hk => (by cases hk)⟩
    · unfold dgT at h
      split at h
      · rename_i z hz
        cases h
        split at hz
        · cases hp : pfxL run with
          | none => rw [hp] at hz; cases hz
          | some p => rw [hp] at hz; cases hz; exact ⟨fun hk => (by cases hk), fun hk => (by cases hk)⟩
        · cases hp : numB run with
          | none => rw [hp] at hz; cases hz
          | some p => rw [hp] at hz; cases hz; exact ⟨fun hk => (by cases hk), fun hk => (by cases hk)⟩
      · cases h
theorem one_word {r : By} {x : Tk} {n : Nat} (h : oneL r = .ok (x, n)) : GdK x := by
  cases r with
  | nil => cases h
  | cons c t =>
    rw [oneL] at h
    have key : ∀ (k : Int) (run : By), (endT k run).map (fun z => (z, run.length)) = .ok (x, n) → GdK x := fun k run h => by
      obtain ⟨z, h1, h2⟩ := map_ok h
      cases h2
      exact endT_word h1
    split at h
    · exact key _ _ h
    · split at h
      · exact key _ _ h
      · split at h
        · exact key _ _ h
        · split at h
          · split at h
            · cases h; exact ⟨fun hk => (by cases hk), fun hk => (by cases hk)⟩
            · cases h
          · split at h
            · cases h; exact ⟨fun hk => (by cases hk), fun _ => rfl⟩
            · cases h
theorem map_okT {α β ε : Type} {f : α → β} {r : Except ε α} {y : β} (h : r.map f = .ok y) : ∃ z, r = .ok z ∧ f z = y := by
  cases r with
  | error e => cases h
  | ok z => cases h; exact ⟨z, rfl, rfl⟩
theorem toks_good : ∀ (n : Nat) (rm : Bool) (i : Nat) (r : By) (L : List Tk), r.length ≤ n → toks rm i r = .ok L → 0 < L.length ∧ L.length ≤ r.length + 1 ∧ (∃ M z, L = M ++ [z] ∧ z.k = 8) ∧ ∀ t ∈ L, GdK t := by
  intro n
  induction n with
  | zero =>
    intro rm i r L hr h
    obtain rfl := List.length_eq_zero_iff.1 (Nat.le_zero.1 hr)
    unfold toks at h
    cases h
    exact ⟨by simp, by simp, ⟨[], _, rfl, rfl⟩, fun t ht => by rw [List.mem_singleton.1 ht]; exact ⟨fun hk => (by cases hk), fun hk => (by cases hk)⟩⟩
  | succ n ih =>
    intro rm i r L hr h
    cases r with
    | nil =>
      unfold toks at h
      cases h
      exact ⟨by simp, by simp, ⟨[], _, rfl, rfl⟩, fun t ht => by rw [List.mem_singleton.1 ht]; exact ⟨fun hk => (by cases hk), fun hk => (by cases hk)⟩⟩
    | cons c t =>
      have hl : t.length ≤ n := by simpa using hr
      have go : ∀ b j, toks b j t = .ok L → 0 < L.length ∧ L.length ≤ (c :: t).length + 1 ∧ (∃ M z, L = M ++ [z] ∧ z.k = 8) ∧ ∀ t ∈ L, GdK t := fun b j h => by
        obtain ⟨h1, h2, h3, h4⟩ := ih b j t L hl h
        exact ⟨h1, by rw [List.length_cons]; omega, h3, h4⟩
      unfold toks at h
      split at h
      · split at h
        · exact go _ _ h
        · exact go _ _ h
      · split at h
        · exact go _ _ h
        · split at h
          · exact go _ _ h
          · split at h
            · cases h
            · rename_i x m hx
              obtain ⟨M, h1, h2⟩ := map_okT h
              have hd : (t.drop (m - 1)).length ≤ n := by rw [List.length_drop]; omega
              obtain ⟨g1, g2, ⟨M', z, g3, g3'⟩, g4⟩ := ih _ _ _ M hd h1
              subst h2
              refine ⟨by simp, ?_, ⟨{ x with p := i } :: M', z, by rw [g3]; rfl, g3'⟩, fun y hy => ?_⟩
              · rw [List.length_drop] at g2
                rw [List.length_cons, List.length_cons]
                omega
              · rcases List.mem_cons.1 hy with e | hy
                · rw [e]
                  exact (show GdK x from one_word hx)
                · exact g4 y hy
theorem scan_good {s : By} {L : List Tk} (h : scanQ s = .ok L) : GdT L := by
  by_cases hs : s.length ≤ 8000
  · rw [scan_toks hs] at h
    obtain ⟨h1, h2, ⟨M, z, h3, h3'⟩, h4⟩ := toks_good s.length false 0 s L (Nat.le_refl _) h
    refine ⟨h1, by omega, ?_, h4⟩
    rw [h3]
    unfold tok
    simp [h3']
  · unfold scanQ at h
    rw [if_pos (by omega)] at h
    cases h
/-- A source as a policy; or what is wrong first, and where. -/
def parsQ (s : By) : Except (Int × Int) (List IT) := match scanQ s with
  | .error x => .error x
  | .ok Ts => match parseP Ts with
    | .ok L _ => .ok L
    | .bad e p => .error (e, p)
    | .out => .error (0, 0)
end Go.Proofs.YtlmhofjiobmodaaGreatDoor
/-
  Scan by its contract, of a source of any length. Condition: the library's ErrRange reads as its text lays it.
-/
namespace Go.Proofs.YtlmhofjiobmodaaGreatDoor
open Go.RowKit Go.Lib

set_option maxHeartbeats 4000000 in
set_option maxRecDepth 100000 in
theorem scan_any (s : By) (w : World) (hev : ErrV w.heap.size w) :
    Calls Tryz.prog 16 #[.string ⟨s.toArray⟩] w fun e w' => ScnQ s w.heap.size e w' ∧ Below w.heap.size w w' := by
  by_cases hs : s.length ≤ 8000
  · exact scan_le s w hs hev
  · have hsz := bs_size s
    have hl' : (8000 : Int) < (s.length : Int) := by omega
    have HSC : Hid (scanQ s = .error (84, 8000)) := by unfold Hid scanQ; rw [if_pos (by omega)]
    clear hev hs
    go_enter Tryz.func16, Tryz.ntmps16
    go_wp2
    refine bodyPost_ret (by simp [results, Tryz.results16, go_sem]; rfl) rfl ?_
    refine ⟨?_, Below.refl _ _⟩
    unfold ScnQ
    rw [HSC.out]
end Go.Proofs.YtlmhofjiobmodaaGreatDoor
/-
  Where a source is wrong, told of Scan. Pure. No condition.
-/
namespace Go.Proofs.YtlmhofjiobmodaaGreatDoor
open Go.RowKit Go.Lib

theorem fall_at (s : By) : ∀ (k i : Nat), i + k = s.length → ∀ x, InF s i x → (∃ y, foldQ s 0 x0 s = (0, y) ∧ InF s s.length y) ∨ ∃ j c y, j < s.length ∧ foldQ s 0 x0 s = (c, y) ∧ Fl s j c y
  | 0, i, hk, x, h => by
    obtain rfl : i = s.length := by omega
    refine .inl ⟨x, ?_, h⟩
    have := h.st
    rwa [List.take_length] at this
  | k + 1, i, hk, x, h => by
    have hi : i < s.length := by omega
    rcases inF_step hi h with ⟨y, hy, hI⟩ | ⟨c, y, hy, hF⟩
    · exact fall_at s k (i + 1) (by omega) y hI
    · exact .inr ⟨i, c, y, hi, fold_fail hi h.st hy hF.c0.1, hF⟩
theorem fall (s : By) : (∃ y, foldQ s 0 x0 s = (0, y) ∧ InF s s.length y) ∨ ∃ j c y, j < s.length ∧ foldQ s 0 x0 s = (c, y) ∧ Fl s j c y := fall_at s s.length 0 (by omega) x0 (InF.start s)
theorem faults {s : By} (hl : s.length ≤ 8000) {c n : Int} (h : scanQ s = .error (c, n)) : ∃ j y, y.fr = n ∧ Fl s j c y ∧ n < s.length ∧ j ≤ s.length := by
  rcases fall s with ⟨y, hy, hI⟩ | ⟨j, c', y, hj, hy, hF⟩
  · rw [scan_foldQ hl hy, if_neg (by show ¬ ((0 : Int) ≠ 0); decide)] at h
    obtain ⟨hst, hf0, hbig, hrun⟩ := hI
    rcases end_cases s y with ⟨h1, h2⟩ | ⟨_, _, h2⟩ | ⟨h1, h2, h3⟩ | ⟨_, h2⟩
    · obtain ⟨g1, g2⟩ := hbig (by omega) (by omega)
      simp only [h2] at h
      rw [if_pos (by decide)] at h
      obtain ⟨rfl, rfl⟩ := Prod.mk.inj (Except.error.inj h)
      exact ⟨s.length, y, rfl, ⟨hf0, by omega, g2, by decide, fun h => absurd rfl h, fun h => absurd rfl h⟩, g1, Nat.le_refl _⟩
    · rw [if_neg (by simp only [h2]; decide)] at h
      cases h
    · obtain ⟨g1, g2⟩ := hbig (by omega) (by omega)
      obtain ⟨c', hc, hcx⟩ := endAny_fail s y s.length h2
      rw [h3, hcx] at h
      simp only at h
      rw [if_pos (by omega)] at h
      obtain ⟨rfl, rfl⟩ := Prod.mk.inj (Except.error.inj h)
      refine ⟨s.length, y, rfl, ⟨hf0, by omega, g2, by omega, fun _ b hb => not_blank (hrun h1 b hb), fun _ s' ht hi' hb => ?_⟩, g1, Nat.le_refl _⟩
      rcases hb with ⟨hb, _⟩ | ⟨hb, _⟩
      · omega
      · refine fold_fail hi' (x := y) ?_ ?_ (by show c' ≠ 0; omega)
        · rw [ht, ← hst]
          exact foldQ_loc _ 0 _ (by simp only [List.length_take]; exact take_mono ht (by omega))
        · rw [hb, stepQ_loc ht]
          rcases step_cases s y s.length (bI 32) with ⟨e1, _⟩ | ⟨e1, _⟩ | ⟨e1, _⟩ | ⟨_, e1, _⟩ | ⟨_, e1, _⟩ | ⟨_, _, _, e1⟩ | ⟨e1, _⟩
          · omega
          · omega
          · omega
          · exact absurd e1 (go_blank _)
          · exact absurd e1 h2
          · rw [e1, hcx]
          · omega
    · rw [if_neg (by simp only [h2]; decide)] at h
      cases h
  · have hc0 := hF.c0.1
    rw [scan_foldQ hl hy, if_pos hc0] at h
    simp only at h
    obtain ⟨rfl, rfl⟩ := Prod.mk.inj (Except.error.inj h)
    exact ⟨j, y, rfl, hF, by have := hF.f1; omega, by omega⟩
/-- What stands ahead of the fault is right. -/
theorem scan_ahead {s : By} (hl : s.length ≤ 8000) {c n : Int} (h : scanQ s = .error (c, n)) : (c ≠ 0 ∧ c ≠ 84) ∧ 0 ≤ n ∧ n < s.length ∧ ∃ L, scanQ (s.take n.toNat) = .ok L := by
  obtain ⟨j, y, rfl, hF, hn, hj⟩ := faults hl h
  refine ⟨hF.c0, hF.f0, hn, ?_⟩
  obtain ⟨x, h1, h2⟩ := hF.good
  have hlt : (s.take y.fr.toNat).length ≤ 8000 := by simp; omega
  have hf : foldQ (s.take y.fr.toNat) 0 x0 (s.take y.fr.toNat) = (0, x) := by
    rw [← h1]
    refine foldQ_loc _ 0 _ ?_
    rw [Nat.zero_add, List.take_length, List.length_take, Nat.min_eq_left (by omega)]
  rw [scan_foldQ hlt hf, if_neg (by show ¬ ((0 : Int) ≠ 0); decide), if_neg (by simp only [h2]; decide)]
  exact ⟨_, rfl⟩
/-- What stands behind the next blank changes nothing. -/
theorem scan_behind {s : By} (hl : s.length ≤ 8000) {c n : Int} (h : scanQ s = .error (c, n)) (hc : c ≠ 83) {m : Nat} (h1 : n < m) (h2 : m ≤ s.length) (h3 : m = s.length ∨ ∃ hm : m < s.length, s[m] = 32 ∨ s[m] = 10) (more : By) (h4 : (s.take m ++ 32 :: more).length ≤ 8000) : scanQ (s.take m ++ 32 :: more) = .error (c, n) := by
  obtain ⟨j, y, rfl, hF, hn, hj⟩ := faults hl h
  have hf0 := hF.f0
  have hf1 := hF.f1
  have hjm : j ≤ m := by
    rcases Nat.lt_or_ge m j with hlt | hge
    · rcases h3 with h3 | ⟨hm, h3⟩
      · omega
      · have hmem : s[m] ∈ cutB s y.fr.toNat j := by
          unfold cutB
          refine List.mem_iff_getElem.2 ⟨m - y.fr.toNat, by simp; omega, ?_⟩
          rw [List.getElem_drop, List.getElem_take]
          congr 1
          omega
        obtain ⟨b1, b2⟩ := hF.run hc _ hmem
        rcases h3 with h3 | h3
        · exact absurd h3 b1
        · exact absurd h3 b2
    · exact hge
  have hlm : (s.take m).length = m := by simp; omega
  have ht : (s.take m ++ 32 :: more).take j = s.take j := by
    rw [List.take_append_of_le_length (by omega), List.take_take, Nat.min_eq_left hjm]
  have hi' : j < (s.take m ++ 32 :: more).length := by simp; omega
  have hfold : foldQ (s.take m ++ 32 :: more) 0 x0 (s.take m ++ 32 :: more) = (c, y) := by
    refine hF.loc hc _ ht hi' ?_
    rcases Nat.lt_or_ge j m with hlt | hge
    · refine .inl ⟨by omega, ?_⟩
      rw [List.getElem_append_left (by omega), List.getElem_take]
    · obtain rfl : j = m := by omega
      refine .inr ⟨?_, by omega⟩
      rw [List.getElem_append_right (by omega)]
      simp [hlm]
  rw [scan_foldQ h4 hfold, if_pos hF.c0.1]
end Go.Proofs.YtlmhofjiobmodaaGreatDoor
/-
  Scan's contract in two shapes; two numbers added. Condition: the library's ErrRange reads as its text lays it.
-/
namespace Go.Proofs.YtlmhofjiobmodaaGreatDoor
open Go.RowKit Go.Lib

/-- Two numbers added, up to the bound. -/
def addI (n m : Int) : Int := if 2147483647 - n < m then 2147483648 else n + m
theorem addI_in {n m : Int} (h0 : 0 ≤ n) (h2 : 0 ≤ m) : 0 ≤ addI n m ∧ addI n m ≤ 2147483648 := by
  unfold addI
  split <;> omega
theorem ErrV.grow {w w' : World} (h : ErrV w.heap.size w) (hb : Below w.heap.size w w') : ErrV w'.heap.size w' := by
  obtain ⟨g, tp, p, h1, h2, h3⟩ := h.below hb
  exact ⟨g, tp, p, h1, Nat.lt_of_lt_of_le h2 hb.size, h3⟩
theorem scan_okc {s : By} {L : List Tk} (h : scanQ s = .ok L) (w : World) (hev : ErrV w.heap.size w) :
    Calls Tryz.prog 16 #[.string ⟨s.toArray⟩] w fun e w' => (∃ tv, e = .returned (.tuple #[tv, .int .i64 0, .int .i64 0]) ∧ w'.ownsRow w.heap.size 49 6 tv L.length (tkC L)) ∧ Below w.heap.size w w' := by
  refine (scan_any s w hev).mono ?_
  rintro e w' ⟨g, x⟩
  unfold ScnQ at g
  rw [h] at g
  exact ⟨g, x⟩
theorem scan_errc {s : By} {c n : Int} (h : scanQ s = .error (c, n)) (w : World) (hev : ErrV w.heap.size w) :
    Calls Tryz.prog 16 #[.string ⟨s.toArray⟩] w fun e w' => e = .returned (.tuple #[.slice none 0 0, .int .i64 c, .int .i64 n]) ∧ Below w.heap.size w w' := by
  refine (scan_any s w hev).mono ?_
  rintro e w' ⟨g, x⟩
  unfold ScnQ at g
  rw [h] at g
  exact ⟨g, x⟩
theorem scan_long {s : By} (h : 8000 < s.length) : scanQ s = .error (84, 8000) := by
  unfold scanQ
  rw [if_pos h]
theorem scan_err_ne {s : By} {c n : Int} (h : scanQ s = .error (c, n)) : c ≠ 0 := by
  by_cases hl : s.length ≤ 8000
  · exact (scan_ahead hl h).1.1
  · rw [scan_long (by omega)] at h
    obtain ⟨rfl, _⟩ := Prod.mk.inj (Except.error.inj h)
    decide
theorem scan_ok_len {s : By} {L : List Tk} (h : scanQ s = .ok L) : s.length ≤ 8000 := by
  rcases Nat.lt_or_ge 8000 s.length with h' | h'
  · rw [scan_long h'] at h
    cases h
  · exact h'
end Go.Proofs.YtlmhofjiobmodaaGreatDoor
