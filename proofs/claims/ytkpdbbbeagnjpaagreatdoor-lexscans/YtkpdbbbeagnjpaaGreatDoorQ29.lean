/-
  Scan tells the tokens, one after the other. Pure. No condition.
-/
import Derived.Test.YtkpdbbbeagnjpaaGreatDoorQ28
namespace Go.Proofs.YtkpdbbbeagnjpaaGreatDoor
open Go.RowKit Go.Lib

theorem tw_spec (p : UInt8 → Bool) : ∀ r : By, (∀ c ∈ r.takeWhile p, p c = true) ∧ ∀ h : (r.takeWhile p).length < r.length, p r[(r.takeWhile p).length] ≠ true
  | [] => ⟨fun c hc => (by cases hc), fun h => absurd h (by simp)⟩
  | a :: t => by
    obtain ⟨h1, h2⟩ := tw_spec p t
    by_cases ha : p a = true
    · have e : (a :: t).takeWhile p = a :: t.takeWhile p := by rw [List.takeWhile_cons, if_pos ha]
      constructor
      · intro c hc
        rw [e] at hc
        rcases List.mem_cons.1 hc with rfl | hc
        · exact ha
        · exact h1 c hc
      · intro h
        have h' : (t.takeWhile p).length < t.length := by rw [e] at h; simpa using h
        have := h2 h'
        have e2 : (a :: t)[((a :: t).takeWhile p).length] = t[(t.takeWhile p).length] := by
          simp only [e, List.length_cons, List.getElem_cons_succ]
        rw [e2]
        exact this
    · have e : (a :: t).takeWhile p = [] := by rw [List.takeWhile_cons, if_neg ha]
      constructor
      · intro c hc
        rw [e] at hc
        cases hc
      · intro h
        have e2 : (a :: t)[((a :: t).takeWhile p).length] = a := by
          simp only [e, List.length_nil, List.getElem_cons_zero]
        rw [e2]
        exact ha
theorem tw_take (p : UInt8 → Bool) (r : By) : r.takeWhile p = r.take (r.takeWhile p).length := List.prefix_iff_eq_take.1 (List.takeWhile_prefix p)
theorem tw_le (p : UInt8 → Bool) (r : By) : (r.takeWhile p).length ≤ r.length := (List.takeWhile_prefix p).length_le
theorem tw_cut (p : UInt8 → Bool) (s : By) (i : Nat) : cutB s i (i + ((s.drop i).takeWhile p).length) = (s.drop i).takeWhile p := by
  unfold cutB
  rw [List.drop_take, Nat.add_sub_cancel_left, ← tw_take]
theorem drop_get {s : By} {i j : Nat} (h : i + j < s.length) : (s.drop i)[j]'(by simp; omega) = s[i + j] := by rw [List.getElem_drop]
/-- A run. -/
theorem tok_run {s : By} {i : Nat} (hi : i < s.length) {k : Int} (hk : k = 2 ∨ k = 3 ∨ k = 4) (hg : goB k (bI s[i]) = true) (T : List Tk) :
    scF s (i + 1) ⟨T, k, i, []⟩ = match endT k ((s.drop i).takeWhile fun b => goB k (bI b)) with
      | .ok z => scF s (i + ((s.drop i).takeWhile fun b => goB k (bI b)).length) ⟨T ++ [{ z with p := i }], 0, i, []⟩
      | .error e => .error (e, i) := by
  obtain ⟨h1, h2⟩ := tw_spec (fun b => goB k (bI b)) (s.drop i)
  have hc := tw_cut (fun b => goB k (bI b)) s i
  have hle := tw_le (fun b => goB k (bI b)) (s.drop i)
  have hpos : 1 ≤ ((s.drop i).takeWhile fun b => goB k (bI b)).length := by
    rw [List.drop_eq_getElem_cons hi, List.takeWhile_cons, if_pos hg]
    simp
  generalize hr : ((s.drop i).takeWhile fun b => goB k (bI b)) = run at *
  rw [List.length_drop] at hle
  have hon := run_on (s := s) (x := ⟨T, k, i, []⟩) hk (run.length - 1) (i + 1) (by omega) (fun j hj g1 g2 => by
    show goB k (bI s[j]) = true
    refine h1 s[j] ?_
    rw [← hc]
    unfold cutB
    refine List.mem_iff_getElem.2 ⟨j - i, by simp; omega, ?_⟩
    rw [List.getElem_drop, List.getElem_take]
    congr 1
    omega)
  rw [hon, show i + 1 + (run.length - 1) = i + run.length by omega]
  have hend := run_end (s := s) (i := i + run.length) (x := ⟨T, k, i, []⟩) (by omega) hk (fun h => by
    have := h2 (by rw [List.length_drop]; omega)
    rw [drop_get h] at this
    exact this)
  rw [hend]
  show (match endT k (cutB s (i : Int).toNat (i + run.length)) with | .ok z => _ | .error e => _) = _
  rw [Int.toNat_natCast, hc]
theorem txL_len (acc r : By) : ∀ m n, txL acc r = some (m, n) → 1 ≤ n ∧ n ≤ r.length := by
  fun_induction txL acc r with
  | case1 => intro m n h; cases h
  | case2 acc t ha =>
    intro m n h
    obtain ⟨rfl, rfl⟩ := Prod.mk.inj (Option.some.inj h)
    simp
  | case3 => intro m n h; cases h
  | case4 => intro m n h; cases h
  | case5 acc d u h3 h1 h2 ih =>
    intro m n h
    cases hx : txL (acc ++ [d]) u with
    | none => rw [hx] at h; cases h
    | some p =>
      rw [hx] at h
      obtain ⟨rfl, rfl⟩ := Prod.mk.inj (Option.some.inj h)
      have := ih p.1 p.2 hx
      simp
      omega
  | case6 => intro m n h; cases h
  | case7 acc c t h1 h2 h3 ih =>
    intro m n h
    cases hx : txL (acc ++ [c]) t with
    | none => rw [hx] at h; cases h
    | some p =>
      rw [hx] at h
      obtain ⟨rfl, rfl⟩ := Prod.mk.inj (Option.some.inj h)
      have := ih p.1 p.2 hx
      simp
      omega
  | case8 => intro m n h; cases h
theorem map_ok {α β : Type} {f : α → β} {r : Except Int α} {y : β} (h : r.map f = .ok y) : ∃ z, r = .ok z ∧ f z = y := by
  cases r with
  | error e => cases h
  | ok z => exact ⟨z, rfl, Except.ok.inj h⟩
theorem go_of_gr {r : Int} (h : grB r = true) : goB 3 r = true := by
  unfold goB
  rw [if_neg (by decide), if_pos rfl]
  exact h
theorem go_of_dg {r : Int} (h : dgB r = true) : goB 4 r = true := by
  unfold goB
  rw [if_neg (by decide), if_neg (by decide), h]
  simp
/-- How a token begins. -/
theorem one_cases (c : UInt8) (t : By) :
    (∃ k, (k = 2 ∨ k = 3 ∨ k = 4) ∧ goB k (bI c) = true ∧ oneL (c :: t) = (endT k ((c :: t).takeWhile fun b => goB k (bI b))).map (fun z => (z, ((c :: t).takeWhile fun b => goB k (bI b)).length)) ∧ (∀ x : SS, ∀ q : Int, blB (bI c) ≠ true → c ≠ 35 → beginP x q (bI c) = (0, { x with fr := q, st := k })) ∧ (k = 2 ↔ smB (bI c) = true)) ∨
    (c = 34 ∧ oneL (c :: t) = (match txL [] t with | some (m, n) => .ok (⟨6, m, 0, 0, 0, 0⟩, n + 1) | none => .error 83) ∧ (∀ x : SS, ∀ q : Int, beginP x q (bI c) = (0, { x with fr := q, st := 5 }))) ∨
    (sgB (bI c) = true ∧ oneL (c :: t) = .ok (⟨7, [c], 0, 0, 0, 0⟩, 1) ∧ (∀ x : SS, ∀ q : Int, blB (bI c) ≠ true → c ≠ 35 → beginP x q (bI c) = (0, { x with fr := q, st := 0, tk := x.tk ++ [⟨7, [c], 0, 0, 0, q⟩] }))) ∨
    (oneL (c :: t) = .error 80 ∧ (∀ x : SS, ∀ q : Int, blB (bI c) ≠ true → c ≠ 35 → beginP x q (bI c) = (80, { x with fr := q, st := 0 }))) := by
  have e35 : bI c = 35 ↔ c = 35 := bI_is c 35 (by decide)
  have e34 : bI c = 34 ↔ c = 34 := bI_is c 34 (by decide)
  by_cases h2 : smB (bI c) = true
  · refine .inl ⟨2, .inl rfl, sm_go h2, by rw [oneL, if_pos h2], fun x q hb h5 => ?_, fun _ => h2, fun _ => rfl⟩
    unfold beginP
    rw [if_neg hb, if_neg (fun e => h5 (e35.1 e)), if_pos h2]
  · by_cases h3 : grB (bI c) = true
    · refine .inl ⟨3, .inr (.inl rfl), go_of_gr h3, by rw [oneL, if_neg h2, if_pos h3], fun x q hb h5 => ?_, fun e => absurd e (by decide), fun e => absurd e h2⟩
      unfold beginP
      rw [if_neg hb, if_neg (fun e => h5 (e35.1 e)), if_neg h2, if_pos h3]
    · by_cases h4 : dgB (bI c) = true
      · refine .inl ⟨4, .inr (.inr rfl), go_of_dg h4, by rw [oneL, if_neg h2, if_neg h3, if_pos h4], fun x q hb h5 => ?_, fun e => absurd e (by decide), fun e => absurd e h2⟩
        unfold beginP
        rw [if_neg hb, if_neg (fun e => h5 (e35.1 e)), if_neg h2, if_neg h3, if_pos h4]
      · by_cases h34 : c = 34
        · refine .inr (.inl ⟨h34, by rw [oneL, if_neg h2, if_neg h3, if_neg h4, if_pos h34]; rfl, fun x q => ?_⟩)
          subst h34
          rfl
        · by_cases h7 : sgB (bI c) = true
          · refine .inr (.inr (.inl ⟨h7, by rw [oneL, if_neg h2, if_neg h3, if_neg h4, if_neg h34, if_pos h7], fun x q hb h5 => ?_⟩))
            unfold beginP
            rw [if_neg hb, if_neg (fun e => h5 (e35.1 e)), if_neg h2, if_neg h3, if_neg h4, if_neg (fun e => h34 (e34.1 e)), if_pos h7, rB_bI]
          · refine .inr (.inr (.inr ⟨by rw [oneL, if_neg h2, if_neg h3, if_neg h4, if_neg h34, if_neg h7], fun x q hb h5 => ?_⟩))
            unfold beginP
            rw [if_neg hb, if_neg (fun e => h5 (e35.1 e)), if_neg h2, if_neg h3, if_neg h4, if_neg (fun e => h34 (e34.1 e)), if_neg h7]
theorem one_len {r : By} {x : Tk} {n : Nat} (h : oneL r = .ok (x, n)) : 1 ≤ n ∧ n ≤ r.length := by
  cases r with
  | nil => cases h
  | cons c t =>
    rcases one_cases c t with ⟨k, hk, hg, h1, _⟩ | ⟨hc, h1, _⟩ | ⟨_, h1, _⟩ | ⟨h1, _⟩
    · rw [h1] at h
      obtain ⟨z, _, hz⟩ := map_ok h
      obtain ⟨_, rfl⟩ := Prod.mk.inj hz
      refine ⟨?_, tw_le _ _⟩
      rw [List.takeWhile_cons, if_pos hg]
      simp
    · rw [h1] at h
      cases hx : txL [] t with
      | none => rw [hx] at h; cases h
      | some p =>
        obtain ⟨m, l⟩ := p
        rw [hx] at h
        obtain ⟨_, rfl⟩ := Prod.mk.inj (Except.ok.inj h)
        have := txL_len _ _ _ _ hx
        simp
        omega
    · rw [h1] at h
      obtain ⟨_, rfl⟩ := Prod.mk.inj (Except.ok.inj h)
      simp
    · rw [h1] at h
      cases h
/-- A token at a place. -/
theorem tok_go {s : By} {i : Nat} (hi : i < s.length) (hb : blB (bI s[i]) ≠ true) (h5 : s[i] ≠ 35) (T : List Tk) (f : Int) :
    scF s i ⟨T, 0, f, []⟩ = match oneL (s.drop i) with
      | .ok (x, n) => scF s (i + n) ⟨T ++ [{ x with p := i }], 0, i, []⟩
      | .error e => .error (e, i) := by
  have hz : ∀ r, stepQ s ⟨T, 0, f, []⟩ i r = beginP ⟨T, 0, f, []⟩ i r := fun r => step_zero _ _ _ _ rfl
  rw [List.drop_eq_getElem_cons hi]
  rcases one_cases s[i] (s.drop (i + 1)) with ⟨k, hk, hg, h1, h2, _⟩ | ⟨_, h1, h2⟩ | ⟨_, h1, h2⟩ | ⟨h1, h2⟩
  · rw [h1, scF_step hi ((hz _).trans (h2 _ _ hb h5))]
    show scF s (i + 1) ⟨T, k, i, []⟩ = _
    rw [tok_run hi hk hg T, List.drop_eq_getElem_cons hi]
    cases endT k ((s[i] :: s.drop (i + 1)).takeWhile fun b => goB k (bI b)) with
    | ok z => rfl
    | error e => rfl
  · rw [h1, scF_step hi ((hz _).trans (h2 _ _))]
    show scF s (i + 1) ⟨T, 5, i, []⟩ = _
    rw [text_go (s.length) (i + 1) [] (by omega) (by omega) (by simp)]
    cases txL [] (s.drop (i + 1)) with
    | none => rfl
    | some p =>
      obtain ⟨m, n⟩ := p
      simp only
      congr 1
      omega
  · rw [h1, scF_step hi ((hz _).trans (h2 _ _ hb h5))]
  · rw [h1]
    exact scF_fall hi (by decide) ((hz _).trans (h2 _ _ hb h5))
theorem blank_go {s : By} {i : Nat} (hi : i < s.length) (hb : blB (bI s[i]) = true) (T : List Tk) (f : Int) : scF s i ⟨T, 0, f, []⟩ = scF s (i + 1) ⟨T, 0, i, []⟩ := by
  refine scF_step hi ?_
  rw [step_zero _ _ _ _ rfl]
  unfold beginP
  rw [if_pos hb]
theorem mark_go {s : By} {i : Nat} (hi : i < s.length) (h5 : s[i] = 35) (T : List Tk) (f : Int) : scF s i ⟨T, 0, f, []⟩ = scF s (i + 1) ⟨T, 1, i, []⟩ := by
  refine scF_step hi ?_
  rw [step_zero _ _ _ _ rfl, h5]
  rfl
theorem rem_go {s : By} {i : Nat} (hi : i < s.length) (T : List Tk) (f : Int) : scF s i ⟨T, 1, f, []⟩ = scF s (i + 1) ⟨T, if s[i] = 10 then 0 else 1, f, []⟩ := by
  refine scF_step hi ?_
  have e10 : bI s[i] = 10 ↔ s[i] = 10 := bI_is s[i] 10 (by decide)
  unfold stepQ stepP
  rw [if_neg (by show ¬ (1 : Int) = 4; decide), if_pos rfl]
  by_cases h : s[i] = 10
  · rw [if_pos (e10.2 h), if_pos h]
  · rw [if_neg (fun e => h (e10.1 e)), if_neg h]
theorem end_go (s : By) (T : List Tk) (rm : Bool) (f : Int) : scF s s.length ⟨T, if rm = true then 1 else 0, f, []⟩ = .ok (T ++ [⟨8, [], 0, 0, 0, s.length⟩]) := by
  rw [scF_end]
  cases rm
  · rfl
  · rfl
def addT (T : List Tk) (r : Except (Int × Int) (List Tk)) : Except (Int × Int) (List Tk) := r.map (T ++ ·)
theorem addT_cons (T : List Tk) (x : Tk) (r : Except (Int × Int) (List Tk)) : addT T (r.map fun L => x :: L) = addT (T ++ [x]) r := by
  unfold addT
  cases r with
  | error e => rfl
  | ok L =>
    show Except.ok (T ++ x :: L) = .ok ((T ++ [x]) ++ L)
    rw [List.append_assoc]
    rfl
theorem scF_toks (s : By) : ∀ (k i : Nat) (rm : Bool) (T : List Tk) (f : Int), s.length - i ≤ k → i ≤ s.length → scF s i ⟨T, if rm = true then 1 else 0, f, []⟩ = addT T (toks rm i (s.drop i)) := by
  intro k
  induction k with
  | zero =>
    intro i rm T f hk hi
    obtain rfl : i = s.length := by omega
    rw [end_go, List.drop_length, toks]
    rfl
  | succ k ih =>
    intro i rm T f hk hi
    rcases Nat.lt_or_ge i s.length with h | h
    · rw [List.drop_eq_getElem_cons h, toks.eq_def]
      simp only
      cases rm with
      | true =>
        show scF s i ⟨T, 1, f, []⟩ = _
        rw [rem_go h, if_pos rfl]
        by_cases h10 : s[i] = 10
        · rw [if_pos h10, if_pos h10]
          exact ih (i + 1) false T f (by omega) (by omega)
        · rw [if_neg h10, if_neg h10]
          exact ih (i + 1) true T f (by omega) (by omega)
      | false =>
        show scF s i ⟨T, 0, f, []⟩ = _
        rw [if_neg (by decide)]
        by_cases hb : blB (bI s[i]) = true
        · rw [if_pos hb, blank_go h hb]
          exact ih (i + 1) false T i (by omega) (by omega)
        · rw [if_neg hb]
          by_cases h5 : s[i] = 35
          · rw [if_pos h5, mark_go h h5]
            exact ih (i + 1) true T i (by omega) (by omega)
          · rw [if_neg h5, tok_go h hb h5, List.drop_eq_getElem_cons h]
            cases hO : oneL (s[i] :: s.drop (i + 1)) with
            | error e => rfl
            | ok p =>
              obtain ⟨x, n⟩ := p
              obtain ⟨n1, n2⟩ := one_len hO
              simp only [List.length_cons, List.length_drop] at n2
              simp only
              have hd : (s.drop (i + 1)).drop (n - 1) = s.drop (i + n) := by
                rw [List.drop_drop]
                congr 1
                omega
              rw [hd, show i + (n - 1) + 1 = i + n by omega, addT_cons]
              exact ih (i + n) false _ i (by omega) (by omega)
    · obtain rfl : i = s.length := by omega
      rw [end_go, List.drop_length, toks]
      rfl
/-- Scan tells just these tokens. -/
theorem scan_toks {s : By} (hs : s.length ≤ 8000) : scanQ s = toks false 0 s := by
  have h := scF_toks s s.length 0 false [] 0 (by omega) (by omega)
  rw [List.drop_zero] at h
  have e : scanQ s = scF s 0 x0 := by
    unfold scanQ scF
    rw [if_neg (by omega), List.drop_zero]
  rw [e]
  refine Eq.trans ?_ (h.trans ?_)
  · rfl
  · unfold addT
    cases toks false 0 s with
    | error e => rfl
    | ok L => rfl
end Go.Proofs.YtkpdbbbeagnjpaaGreatDoor
