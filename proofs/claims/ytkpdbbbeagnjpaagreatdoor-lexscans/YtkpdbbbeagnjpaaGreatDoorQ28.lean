/-
  The scanner as a pure function that takes one token after the other. No condition.
-/
import Derived.Test.YtkpdbbbeagnjpaaGreatDoorQ27
namespace Go.Proofs.YtkpdbbbeagnjpaaGreatDoor
open Go.RowKit Go.Lib

/-- A run of digits as a token. -/
def dgT (run : By) : Option Tk :=
  if 46 ∈ run ∨ 47 ∈ run then (pfxL run).map fun p => ⟨5, [], 0, p.1, p.2, 0⟩ else (numB run).map fun u => ⟨4, [], u, 0, 0, 0⟩
/-- A run as a token, by its kind. -/
def endT (k : Int) (run : By) : Except Int Tk :=
  if k = 2 then (if 32 < run.length then .error 82 else .ok ⟨if wdB run = true then 1 else 2, run, 0, 0, 0, 0⟩)
  else if k = 3 then (if 16 < run.length then .error 82 else .ok ⟨3, run, 0, 0, 0, 0⟩)
  else match dgT run with
    | some z => .ok z
    | none => .error 81
theorem endAny_T (s : By) (x : SS) (q : Nat) (hk : x.st = 2 ∨ x.st = 3 ∨ x.st = 4) : endAny s x q = match endT x.st (cutB s x.fr.toNat q) with
    | .ok z => (0, { x with tk := x.tk ++ [{ z with p := x.fr }] })
    | .error e => (e, x) := by
  unfold endAny endT
  rcases hk with h | h | h
  · rw [if_neg (by omega), if_pos h]
    unfold endRunP endLettersP
    rw [if_pos h, Int.toNat_natCast]
    by_cases hl : 32 < (cutB s x.fr.toNat q).length
    · rw [if_pos hl, if_pos (by omega)]
    · rw [if_neg hl, if_neg (by omega)]
  · rw [if_neg (by omega), if_neg (by omega), if_pos h]
    unfold endRunP endLettersP
    rw [if_neg (by omega), Int.toNat_natCast]
    by_cases hl : 16 < (cutB s x.fr.toNat q).length
    · rw [if_pos hl, if_pos (by omega)]
    · rw [if_neg hl, if_neg (by omega)]
  · rw [if_pos h, if_neg (by omega), if_neg (by omega)]
    unfold endDigP dgT
    generalize cutB s x.fr.toNat q = run
    by_cases hp : 46 ∈ run ∨ 47 ∈ run
    · rw [if_pos hp, if_pos hp]
      unfold endPfxP
      cases pfxL run with
      | none => rfl
      | some p => rfl
    · rw [if_neg hp, if_neg hp]
      unfold endNumP
      cases numB run with
      | none => rfl
      | some p => rfl
/-- What a text means, and how many bytes it takes from behind its first quote on. -/
def txL (acc : By) : By → Option (By × Nat)
  | [] => none
  | c :: t =>
    if c = 34 then (if acc.length ≤ 200 then some (acc, 1) else none)
    else if txB (bI c) = true then
      if c = 92 then
        match t with
        | [] => none
        | d :: u => if esB (bI d) = true then (txL (acc ++ [d]) u).map fun p => (p.1, p.2 + 2) else none
      else (txL (acc ++ [c]) t).map fun p => (p.1, p.2 + 1)
    else none
  termination_by r => r.length
  decreasing_by all_goals (simp_wf; try omega)
/-- The token at a text's begin, and its bytes. -/
def oneL : By → Except Int (Tk × Nat)
  | [] => .error 80
  | c :: t =>
    if smB (bI c) = true then (endT 2 ((c :: t).takeWhile fun b => goB 2 (bI b))).map fun z => (z, ((c :: t).takeWhile fun b => goB 2 (bI b)).length)
    else if grB (bI c) = true then (endT 3 ((c :: t).takeWhile fun b => goB 3 (bI b))).map fun z => (z, ((c :: t).takeWhile fun b => goB 3 (bI b)).length)
    else if dgB (bI c) = true then (endT 4 ((c :: t).takeWhile fun b => goB 4 (bI b))).map fun z => (z, ((c :: t).takeWhile fun b => goB 4 (bI b)).length)
    else if c = 34 then
      match txL [] t with
      | some (m, n) => .ok (⟨6, m, 0, 0, 0, 0⟩, n + 1)
      | none => .error 83
    else if sgB (bI c) = true then .ok (⟨7, [c], 0, 0, 0, 0⟩, 1)
    else .error 80
/-- All tokens from a place on; rm: within a remark. -/
def toks (rm : Bool) (i : Nat) (r : By) : Except (Int × Int) (List Tk) :=
  match r with
  | [] => .ok [⟨8, [], 0, 0, 0, i⟩]
  | c :: t =>
    if rm = true then (if c = 10 then toks false (i + 1) t else toks true (i + 1) t)
    else if blB (bI c) = true then toks false (i + 1) t
    else if c = 35 then toks true (i + 1) t
    else match oneL (c :: t) with
      | .error e => .error (e, i)
      | .ok (x, n) => (toks false (i + (n - 1) + 1) (t.drop (n - 1))).map fun L => { x with p := i } :: L
  termination_by r.length
  decreasing_by all_goals (simp_wf; try omega)
/-- What is told from a place and a state on. -/
def scF (s : By) (i : Nat) (x : SS) : Except (Int × Int) (List Tk) :=
  if (foldQ s i x (s.drop i)).1 ≠ 0 then .error ((foldQ s i x (s.drop i)).1, (foldQ s i x (s.drop i)).2.fr)
  else if (endQ s (foldQ s i x (s.drop i)).2).1 ≠ 0 then .error ((endQ s (foldQ s i x (s.drop i)).2).1, (endQ s (foldQ s i x (s.drop i)).2).2.fr)
  else .ok (endQ s (foldQ s i x (s.drop i)).2).2.tk
theorem scF_fold {s : By} {i j : Nat} {x y : SS} (h : foldQ s i x (s.drop i) = foldQ s j y (s.drop j)) : scF s i x = scF s j y := by
  unfold scF
  rw [h]
theorem scF_step {s : By} {i : Nat} (hi : i < s.length) {x y : SS} (h : stepQ s x i (bI s[i]) = (0, y)) : scF s i x = scF s (i + 1) y := by
  refine scF_fold ?_
  rw [List.drop_eq_getElem_cons hi, foldQ, h, if_pos rfl]
theorem scF_fall {s : By} {i : Nat} (hi : i < s.length) {x y : SS} {c : Int} (hc : c ≠ 0) (h : stepQ s x i (bI s[i]) = (c, y)) : scF s i x = .error (c, y.fr) := by
  unfold scF
  rw [List.drop_eq_getElem_cons hi, foldQ, h, if_neg hc, if_pos hc]
theorem scF_end (s : By) (x : SS) : scF s s.length x = if (endQ s x).1 ≠ 0 then .error ((endQ s x).1, (endQ s x).2.fr) else .ok (endQ s x).2.tk := by
  unfold scF
  rw [List.drop_length, foldQ, if_neg (by show ¬ ((0 : Int) ≠ 0); decide)]
theorem scF_same {s : By} {i : Nat} (hi : i < s.length) {x y : SS} (h : stepQ s x i (bI s[i]) = stepQ s y i (bI s[i])) : scF s i x = scF s i y := by
  refine scF_fold ?_
  rw [List.drop_eq_getElem_cons hi, foldQ, foldQ, h]
theorem begin_same (x y : SS) (q r : Int) (ht : x.tk = y.tk) (hm : x.mn = y.mn) : beginP x q r = beginP y q r := by
  obtain ⟨xt, xs, xf, xm⟩ := x
  obtain ⟨yt, ys, yf, ym⟩ := y
  simp only at ht hm
  subst ht hm
  unfold beginP
  rfl
theorem step_zero (s : By) (x : SS) (i : Nat) (r : Int) (h : x.st = 0) : stepQ s x i r = beginP x i r := by
  rcases step_cases s x i r with ⟨e, _⟩ | ⟨e, _⟩ | ⟨e, _⟩ | ⟨e, _⟩ | ⟨e, _⟩ | ⟨e, _⟩ | ⟨e, hy⟩
  · omega
  · omega
  · omega
  · omega
  · omega
  · omega
  · exact hy
/-- A run has ended. -/
theorem run_end {s : By} {i : Nat} (hi : i ≤ s.length) {x : SS} (hk : x.st = 2 ∨ x.st = 3 ∨ x.st = 4) (hg : ∀ h : i < s.length, goB x.st (bI s[i]) ≠ true) :
    scF s i x = match endT x.st (cutB s x.fr.toNat i) with
      | .ok z => scF s i { x with st := 0, tk := x.tk ++ [{ z with p := x.fr }] }
      | .error e => .error (e, x.fr) := by
  have hE := endAny_T s x i hk
  have hne : ∀ e, endT x.st (cutB s x.fr.toNat i) = .error e → e ≠ 0 := fun e he => by
    unfold endT at he
    split at he
    · split at he
      · rw [← Except.error.inj he]; decide
      · cases he
    · split at he
      · split at he
        · rw [← Except.error.inj he]; decide
        · cases he
      · split at he
        · cases he
        · rw [← Except.error.inj he]; decide
  rcases Nat.lt_or_ge i s.length with h | h
  · rcases step_cases s x i (bI s[i]) with ⟨e, _⟩ | ⟨e, _⟩ | ⟨e, _⟩ | ⟨_, e, _⟩ | ⟨_, e, hy⟩ | ⟨_, _, e, hy⟩ | ⟨e, hy⟩
    · omega
    · omega
    · omega
    · exact absurd e (hg h)
    · cases hT : endT x.st (cutB s x.fr.toNat i) with
      | ok z =>
        rw [hT] at hE
        simp only at hE ⊢
        refine scF_same h ?_
        rw [hy, hE, step_zero _ _ _ _ rfl]
        exact begin_same _ _ _ _ rfl rfl
      | error c =>
        rw [hT] at hE
        simp only at hE
        rw [hE] at e
        exact absurd e (hne c hT)
    · cases hT : endT x.st (cutB s x.fr.toNat i) with
      | ok z =>
        rw [hT] at hE
        simp only at hE
        rw [hE] at e
        exact absurd rfl e
      | error c =>
        rw [hT] at hE
        simp only at hE ⊢
        exact scF_fall h (hne c hT) (by rw [hy, hE])
    · omega
  · obtain rfl : i = s.length := by omega
    have hq : endQ s x = if (endAny s x s.length).1 = 0 then (0, { (endAny s x s.length).2 with fr := s.length, tk := (endAny s x s.length).2.tk ++ [⟨8, [], 0, 0, 0, s.length⟩] }) else endAny s x s.length := by
      unfold endQ endP endAny
      by_cases h4 : x.st = 4
      · rw [if_pos h4, if_pos h4]
      · rw [if_neg h4, if_neg h4, if_neg (by omega), if_pos (by omega)]
    rw [scF_end, hq, hE]
    cases hT : endT x.st (cutB s x.fr.toNat s.length) with
    | ok z =>
      simp only
      rw [scF_end]
      unfold endQ endP
      simp
    | error c =>
      have := hne c hT
      simp only
      rw [if_neg this, if_pos this]
/-- .. and goes on. -/
theorem run_on {s : By} {x : SS} (hk : x.st = 2 ∨ x.st = 3 ∨ x.st = 4) : ∀ (n i : Nat), i + n ≤ s.length → (∀ j (hj : j < s.length), i ≤ j → j < i + n → goB x.st (bI s[j]) = true) → scF s i x = scF s (i + n) x
  | 0, i, _, _ => rfl
  | n + 1, i, hn, hg => by
    have hi : i < s.length := by omega
    have hs : stepQ s x i (bI s[i]) = (0, x) := by
      have := hg i hi (Nat.le_refl _) (by omega)
      unfold stepQ stepP
      by_cases h4 : x.st = 4
      · rw [h4] at this
        rw [if_pos h4, if_pos this]
      · rw [if_neg h4, if_neg (by omega), if_neg (by omega), if_neg (by omega), if_pos (by omega), if_pos this]
    rw [scF_step hi hs, run_on hk n (i + 1) (by omega) (fun j hj h1 h2 => hg j hj (by omega) (by omega))]
    congr 1
    omega
theorem rB_bI (b : UInt8) : rB (bI b) = b := by
  unfold rB bI
  rw [Int.toNat_natCast]
  exact UInt8.ofNat_toNat
theorem bI_is (b : UInt8) (n : Nat) (hn : n < 256) : bI b = (n : Int) ↔ b = UInt8.ofNat n := by
  unfold bI
  constructor
  · intro h
    have h : b.toNat = n := by omega
    rw [← h, UInt8.ofNat_toNat]
  · intro h
    rw [h, UInt8.toNat_ofNat', Nat.mod_eq_of_lt hn]
theorem txL_long (acc r : By) (h : 200 < acc.length) : txL acc r = none := by
  fun_induction txL acc r with
  | case1 => rfl
  | case2 => omega
  | case3 => rfl
  | case4 => rfl
  | case5 acc d u h3 h1 h2 ih => rw [ih (by simp; omega)]; rfl
  | case6 => rfl
  | case7 acc c t h1 h2 h3 ih => rw [ih (by simp; omega)]; rfl
  | case8 => rfl
/-- A text. -/
theorem text_go {s : By} {T : List Tk} {f : Int} : ∀ (k i : Nat) (acc : By), s.length - i ≤ k → i ≤ s.length → acc.length ≤ 200 → scF s i ⟨T, 5, f, acc⟩ = match txL acc (s.drop i) with
      | some (m, n) => scF s (i + n) ⟨T ++ [⟨6, m, 0, 0, 0, f⟩], 0, f, []⟩
      | none => .error (83, f) := by
  intro k
  induction k with
  | zero =>
    intro i acc hk hi ha
    obtain rfl : i = s.length := by omega
    rw [List.drop_length, txL, scF_end]
    have : endQ s ⟨T, 5, f, acc⟩ = (83, ⟨T, 5, f, acc⟩) := by
      unfold endQ endP
      simp
    rw [this]
    rfl
  | succ k ih =>
    intro i acc hk hi ha
    rcases Nat.lt_or_ge i s.length with h | h
    · have hst : stepQ s ⟨T, 5, f, acc⟩ i (bI s[i]) = stepTextP ⟨T, 5, f, acc⟩ (bI s[i]) := by
        unfold stepQ stepP
        simp
      have e34 : bI s[i] = 34 ↔ s[i] = 34 := bI_is s[i] 34 (by decide)
      have e92 : bI s[i] = 92 ↔ s[i] = 92 := bI_is s[i] 92 (by decide)
      rw [List.drop_eq_getElem_cons h, txL.eq_def]
      simp only
      by_cases h34 : s[i] = 34
      · rw [if_pos h34, if_pos ha]
        simp only
        refine scF_step h ?_
        rw [hst]
        unfold stepTextP
        rw [if_pos (e34.2 h34)]
      · rw [if_neg h34]
        by_cases h92 : s[i] = 92
        · rw [if_pos (show txB (bI s[i]) = true by rw [h92]; decide), if_pos h92]
          have h6 : scF s i ⟨T, 5, f, acc⟩ = scF s (i + 1) ⟨T, 6, f, acc⟩ := by
            refine scF_step h ?_
            rw [hst]
            unfold stepTextP
            rw [if_neg (fun e => h34 (e34.1 e)), if_pos (e92.2 h92)]
          rw [h6]
          rcases Nat.lt_or_ge (i + 1) s.length with h' | h'
          · have hst2 : stepQ s ⟨T, 6, f, acc⟩ ((i + 1 : Nat) : Int) (bI s[i + 1]) = stepEscP ⟨T, 6, f, acc⟩ (bI s[i + 1]) := by
              unfold stepQ stepP
              simp
            rw [List.drop_eq_getElem_cons h']
            simp only
            by_cases hes : esB (bI s[i + 1]) = true
            · rw [if_pos hes]
              have htx : txB (bI s[i + 1]) = true := by
                unfold esB at hes
                unfold txB
                simp at hes ⊢
                omega
              by_cases h200 : acc.length = 200
              · rw [txL_long (acc ++ [s[i + 1]]) _ (by simp; omega)]
                simp only [Option.map_none]
                refine scF_fall h' (by decide) (y := ⟨T, 5, f, acc⟩) ?_
                rw [hst2]
                unfold stepEscP meanP
                rw [if_pos hes, if_neg (by simp [h200])]
              · have h5 : scF s (i + 1) ⟨T, 6, f, acc⟩ = scF s (i + 1 + 1) ⟨T, 5, f, acc ++ [s[i + 1]]⟩ := by
                  refine scF_step h' ?_
                  rw [hst2]
                  unfold stepEscP meanP
                  rw [if_pos hes, if_pos ⟨htx, h200⟩, rB_bI]
                rw [h5, ih (i + 1 + 1) (acc ++ [s[i + 1]]) (by omega) (by omega) (by simp; omega)]
                cases txL (acc ++ [s[i + 1]]) (s.drop (i + 1 + 1)) with
                | none => rfl
                | some p =>
                  obtain ⟨m, n⟩ := p
                  simp only [Option.map_some]
                  congr 1
                  omega
            · rw [if_neg hes]
              simp only
              refine scF_fall h' (by decide) (y := ⟨T, 6, f, acc⟩) ?_
              rw [hst2]
              unfold stepEscP
              rw [if_neg hes]
          · have hl : i + 1 = s.length := by omega
            rw [hl, List.drop_length, scF_end]
            have : endQ s ⟨T, 6, f, acc⟩ = (83, ⟨T, 6, f, acc⟩) := by
              unfold endQ endP
              simp
            rw [this]
            rfl
        · have hst3 : stepQ s ⟨T, 5, f, acc⟩ i (bI s[i]) = meanP ⟨T, 5, f, acc⟩ (bI s[i]) := by
            rw [hst]
            unfold stepTextP
            rw [if_neg (fun e => h34 (e34.1 e)), if_neg (fun e => h92 (e92.1 e))]
          by_cases htx : txB (bI s[i]) = true
          · rw [if_pos htx, if_neg h92]
            by_cases h200 : acc.length = 200
            · rw [txL_long (acc ++ [s[i]]) _ (by simp; omega)]
              simp only [Option.map_none]
              refine scF_fall h (by decide) (y := ⟨T, 5, f, acc⟩) ?_
              rw [hst3]
              unfold meanP
              rw [if_neg (by simp [h200])]
            · have h5 : scF s i ⟨T, 5, f, acc⟩ = scF s (i + 1) ⟨T, 5, f, acc ++ [s[i]]⟩ := by
                refine scF_step h ?_
                rw [hst3]
                unfold meanP
                rw [if_pos ⟨htx, h200⟩, rB_bI]
              rw [h5, ih (i + 1) (acc ++ [s[i]]) (by omega) (by omega) (by simp; omega)]
              cases txL (acc ++ [s[i]]) (s.drop (i + 1)) with
              | none => rfl
              | some p =>
                obtain ⟨m, n⟩ := p
                simp only [Option.map_some]
                congr 1
                omega
          · rw [if_neg htx]
            simp only
            refine scF_fall h (by decide) (y := ⟨T, 5, f, acc⟩) ?_
            rw [hst3]
            unfold meanP
            rw [if_neg (fun hh => htx hh.1)]
    · obtain rfl : i = s.length := by omega
      rw [List.drop_length, txL, scF_end]
      have : endQ s ⟨T, 5, f, acc⟩ = (83, ⟨T, 5, f, acc⟩) := by
        unfold endQ endP
        simp
      rw [this]
      rfl
end Go.Proofs.YtkpdbbbeagnjpaaGreatDoor
