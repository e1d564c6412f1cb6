/-
  Where a text is refused, it hangs on what stands up to there: pieces and patterns. No condition.
-/
import Derived.Test.YtaiijdnfimclbaaMLoc
namespace Go.Proofs.Ytaiijdnfimclbaa

section
variable {c : UInt8} {t m : By}
theorem its_le {n : Nat} {r u : By} {A B : List Spn} (h : itsL n r A = .ok (B, u)) : u.length ≤ r.length := by
  induction n generalizing r A with
  | zero => cases h
  | succ n ih =>
    unfold itsL at h
    split at h
    · injection h with h; injection h with _ h; subst h; simp
    · split at h
      · cases h
      · rename_i s t1 hi
        have := (itL_ok hi).1
        have := ih h
        omega
theorem stL_loc (x : By) : Loc stL c t m x := by
  have hp := pre1 33 c x t m
  refine ⟨fun y z h => ?_, fun z h => ?_⟩
  · unfold stL at h ⊢
    simp only at h ⊢
    rw [← hp]
    cases hb : [33].isPrefixOf (x ++ c :: t) with
    | true =>
      rw [hb] at h
      simp only [if_true] at h ⊢
      cases x with
      | nil =>
        exfalso
        split at h
        · cases h
        · rename_i A u hi
          injection h with h; injection h with _ h
          subst h
          have := its_le hi
          rw [List.length_append] at this
          simp at this
          omega
      | cons d x =>
        rw [show (d :: x ++ c :: t).drop 1 = x ++ c :: t from rfl] at h
        rw [show (d :: x ++ c :: m).drop 1 = x ++ c :: m from rfl]
        split at h
        · cases h
        · rename_i A u hi
          injection h with h; injection h with e1 e2
          subst e2
          rw [(itsL_loc (c := c) (t := t) (m := m) _ ((x ++ c :: m).length + 1) x [] (Nat.lt_succ_self _) (Nat.lt_succ_self _)).1 _ _ hi]
          simp only
          rw [e1]
    | false =>
      rw [hb] at h
      simp only [Bool.false_eq_true, if_false] at h ⊢
      split at h
      · cases h
      · rename_i A u hi
        injection h with h; injection h with e1 e2
        subst e2
        rw [(itsL_loc (c := c) (t := t) (m := m) _ ((x ++ c :: m).length + 1) x [] (Nat.lt_succ_self _) (Nat.lt_succ_self _)).1 _ _ hi]
        simp only
        rw [e1]
  · unfold stL at h ⊢
    simp only at h ⊢
    rw [← hp]
    cases hb : [33].isPrefixOf (x ++ c :: t) with
    | true =>
      rw [hb] at h
      simp only [if_true] at h ⊢
      cases x with
      | nil =>
        exfalso
        split at h
        · rename_i u hi
          injection h with h
          subst h
          have := (itsL_err hi).length_le
          rw [List.length_append] at this
          simp at this
          omega
        · cases h
      | cons d x =>
        rw [show (d :: x ++ c :: t).drop 1 = x ++ c :: t from rfl] at h
        rw [show (d :: x ++ c :: m).drop 1 = x ++ c :: m from rfl]
        split at h
        · rename_i u hi
          injection h with h
          subst h
          rw [(itsL_loc (c := c) (t := t) (m := m) _ ((x ++ c :: m).length + 1) x [] (Nat.lt_succ_self _) (Nat.lt_succ_self _)).2 _ hi]
        · cases h
    | false =>
      rw [hb] at h
      simp only [Bool.false_eq_true, if_false] at h ⊢
      split at h
      · rename_i u hi
        injection h with h
        subst h
        rw [(itsL_loc (c := c) (t := t) (m := m) _ ((x ++ c :: m).length + 1) x [] (Nat.lt_succ_self _) (Nat.lt_succ_self _)).2 _ hi]
      · cases h
theorem pcL_loc (x : By) : Loc pcL c t m x := by
  cases x with
  | nil =>
    refine ⟨fun y z h => ?_, fun z h => ?_⟩
    · exfalso
      have := (pcL_ok h).1
      rw [List.length_append] at this
      simp at this
      omega
    · have hz : z = [] := by
        have := (pcL_err h).length_le
        rw [List.length_append] at this
        simp at this
        exact List.eq_nil_of_length_eq_zero (by omega)
      subst hz
      rw [List.nil_append] at h ⊢
      have q1 := pre1 42 c [] m t
      have q2 := pre1 63 c [] m t
      have q3 := pre1 91 c [] m t
      have q4 := pre1 92 c [] m t
      simp only [List.nil_append] at q1 q2 q3 q4
      unfold pcL at h ⊢
      split at h
      · cases h
      · rename_i b1
        split at h
        · cases h
        · rename_i b2
          have b1' : ¬ [42, 42].isPrefixOf (c :: m) = true := fun hh => b2 (by
            rw [← q1]
            obtain ⟨u, hu⟩ := List.isPrefixOf_iff_prefix.1 hh
            rw [← hu]; rfl)
          rw [if_neg b1', q1, if_neg b2, q2]
          split at h
          · cases h
          · rename_i b3
            rw [if_neg b3, q3]
            split at h
            · exfalso
              have := (stL_err h).length_le
              simp at this
              omega
            · rename_i b4
              rw [if_neg b4, q4]
              split at h
              · rename_i u hi
                injection h with h
                subst h
                by_cases b5 : [92].isPrefixOf (c :: t) = true
                · exfalso
                  rw [if_pos b5] at hi
                  have e := tkL_err hi
                  have := congrArg List.length e
                  simp at this
                · rw [if_neg b5] at hi ⊢
                  have := (tkL_loc (c := c) (t := t) (m := m) 32 []).err [] hi
                  rw [List.nil_append] at this
                  rw [this]
              · cases h
  | cons d x =>
    refine ⟨fun y z h => ?_, fun z h => ?_⟩
    · have e2 : (d :: x ++ c :: t).drop 1 = x ++ c :: t := rfl
      have e2' : (d :: x ++ c :: m).drop 1 = x ++ c :: m := rfl
      unfold pcL at h ⊢
      rw [pre2 42 42 c d x m t, pre1 42 c (d :: x) m t, pre1 63 c (d :: x) m t, pre1 91 c (d :: x) m t, pre1 92 c (d :: x) m t]
      rw [e2] at h
      rw [e2']
      split at h
      · rename_i b1
        rw [if_pos b1]
        injection h with h; injection h with h1 h3
        cases x with
        | nil =>
          have := cut_len' (show t = z ++ c :: t from h3)
          omega
        | cons f x => rw [h1, show (d :: f :: x ++ c :: m).drop 2 = x ++ c :: m from rfl, app_inj (show x ++ c :: t = z ++ c :: t from h3)]
      · rename_i b1
        rw [if_neg b1]
        split at h
        · rename_i b2
          rw [if_pos b2]
          injection h with h; injection h with h1 h3
          rw [h1, app_inj h3]
        · rename_i b2
          rw [if_neg b2]
          split at h
          · rename_i b3
            rw [if_pos b3]
            injection h with h; injection h with h1 h3
            rw [h1, app_inj h3]
          · rename_i b3
            rw [if_neg b3]
            split at h
            · rename_i b4
              rw [if_pos b4]
              exact (stL_loc (c := c) (t := t) (m := m) x).ok y z h
            · rename_i b4
              rw [if_neg b4]
              by_cases b5 : [92].isPrefixOf (d :: x ++ c :: t) = true
              · rw [if_pos b5] at h ⊢
                split at h
                · cases h
                · rename_i f u hi
                  injection h with h; injection h with h1 h3
                  subst h3
                  rw [(tkL_loc (c := c) (t := t) (m := m) 32 x).ok _ _ hi]
                  simp only
                  rw [h1]
              · rw [if_neg b5] at h ⊢
                split at h
                · cases h
                · rename_i f u hi
                  injection h with h; injection h with h1 h3
                  subst h3
                  rw [(tkL_loc (c := c) (t := t) (m := m) 32 (d :: x)).ok _ _ hi]
                  simp only
                  rw [h1]
    · have e2 : (d :: x ++ c :: t).drop 1 = x ++ c :: t := rfl
      have e2' : (d :: x ++ c :: m).drop 1 = x ++ c :: m := rfl
      unfold pcL at h ⊢
      rw [pre2 42 42 c d x m t, pre1 42 c (d :: x) m t, pre1 63 c (d :: x) m t, pre1 91 c (d :: x) m t, pre1 92 c (d :: x) m t]
      rw [e2] at h
      rw [e2']
      split at h
      · cases h
      · rename_i b1
        rw [if_neg b1]
        split at h
        · cases h
        · rename_i b2
          rw [if_neg b2]
          split at h
          · cases h
          · rename_i b3
            rw [if_neg b3]
            split at h
            · rename_i b4
              rw [if_pos b4]
              exact (stL_loc (c := c) (t := t) (m := m) x).err z h
            · rename_i b4
              rw [if_neg b4]
              by_cases b5 : [92].isPrefixOf (d :: x ++ c :: t) = true
              · rw [if_pos b5] at h ⊢
                split at h
                · rename_i u hi
                  injection h with h
                  subst h
                  rw [(tkL_loc (c := c) (t := t) (m := m) 32 x).err _ hi]
                · cases h
              · rw [if_neg b5] at h ⊢
                split at h
                · rename_i u hi
                  injection h with h
                  subst h
                  rw [(tkL_loc (c := c) (t := t) (m := m) 32 (d :: x)).err _ hi]
                · cases h
theorem psL_err : ∀ {n : Nat} {r u : By} {A : List Pc}, psL n r A = .error u → u <:+ r
  | 0, r, u, A, h => by injection h with h; rw [h]; exact List.suffix_refl _
  | n + 1, r, u, A, h => by
    unfold psL at h
    split at h
    · cases h
    · split at h
      · injection h with h; rw [h]; exact List.suffix_refl _
      · split at h
        · rename_i v hp; injection h with h; subst h; exact pcL_err hp
        · rename_i p v hp
          exact (psL_err h).trans (pcL_ok hp).2.1
theorem psL_loc : ∀ (n n' : Nat) (x : By) (A : List Pc), (x ++ c :: t).length < n → (x ++ c :: m).length < n' → ∀ z, psL n (x ++ c :: t) A = .error (z ++ c :: t) → psL n' (x ++ c :: m) A = .error (z ++ c :: m)
  | 0, _, _, _, h, _ => absurd h (Nat.not_lt_zero _)
  | _, 0, _, _, _, h => absurd h (Nat.not_lt_zero _)
  | n + 1, n' + 1, x, A, hn, hn' => by
    intro z h
    unfold psL at h ⊢
    rw [if_neg (by simp)] at h
    rw [if_neg (by simp)]
    split at h
    · rename_i h64
      rw [if_pos h64]
      injection h with h
      rw [app_inj h]
    · rename_i h64
      rw [if_neg h64]
      cases hp : pcL (x ++ c :: t) with
      | error u =>
        rw [hp] at h
        injection h with h
        subst h
        rw [(pcL_loc (c := c) (t := t) (m := m) x).err _ hp]
      | ok q =>
        obtain ⟨p, u⟩ := q
        rw [hp] at h
        simp only at h
        obtain ⟨z', hz'⟩ := sfx (psL_err h)
        subst hz'
        have hp' := (pcL_loc (c := c) (t := t) (m := m) x).ok _ _ hp
        have a1 := (pcL_ok hp).1
        have b1 := (pcL_ok hp').1
        rw [hp']
        exact psL_loc n n' z' (A ++ [p]) (by omega) (by omega) z h
/-- No text goes further where one was refused. -/
theorem parL_loc {s : By} (h : parL s = .error (c :: t)) (m : By) : ∃ x, s = x ++ c :: t ∧ parL (x ++ c :: m) = .error (c :: m) := by
  obtain ⟨x, rfl⟩ := sfx0 (psL_err h)
  exact ⟨x, rfl, psL_loc (c := c) (t := t) (m := m) _ _ x [] (Nat.lt_succ_self _) (Nat.lt_succ_self _) [] h⟩
end
end Go.Proofs.Ytaiijdnfimclbaa
