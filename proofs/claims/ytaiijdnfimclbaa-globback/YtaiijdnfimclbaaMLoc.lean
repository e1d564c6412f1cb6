/-
  Where a text is refused, it hangs on what stands up to there. No condition.
-/
import Derived.Test.YtaiijdnfimclbaaMPar
namespace Go.Proofs.Ytaiijdnfimclbaa

theorem cut_len' {z t u : By} {c : UInt8} (h : u = z ++ c :: t) : t.length < u.length := by
  rw [h, List.length_append, List.length_cons]; omega
theorem app_inj {x z : By} {t : By} (h : x ++ t = z ++ t) : x = z := List.append_cancel_right h
theorem pre1 (k c : UInt8) (x t m : By) : [k].isPrefixOf (x ++ c :: t) = [k].isPrefixOf (x ++ c :: m) := by
  cases x <;> simp [List.isPrefixOf]
theorem pre2 (k l c d : UInt8) (x t m : By) : [k, l].isPrefixOf (d :: x ++ c :: t) = [k, l].isPrefixOf (d :: x ++ c :: m) := by
  cases x <;> simp [List.isPrefixOf]
theorem sfx {z u t : By} (h : z ++ t <:+ u) : ∃ z', u = z' ++ t := by
  obtain ⟨y, hy⟩ := h
  exact ⟨y ++ z, by rw [← hy, List.append_assoc]⟩
theorem sfx0 {u t : By} (h : t <:+ u) : ∃ z', u = z' ++ t := by
  obtain ⟨y, hy⟩ := h
  exact ⟨y, hy.symm⟩
/-- A reading hangs on what stands up to c. -/
structure Loc {α : Type} (F : By → Except By (α × By)) (c : UInt8) (t m x : By) : Prop where
  ok : ∀ y z, F (x ++ c :: t) = .ok (y, z ++ c :: t) → F (x ++ c :: m) = .ok (y, z ++ c :: m)
  err : ∀ z, F (x ++ c :: t) = .error (z ++ c :: t) → F (x ++ c :: m) = .error (z ++ c :: m)
section
variable {c : UInt8} {t m : By}
theorem tk_cons (least : Nat) (d : UInt8) (r : By) : tkL least (d :: r) = if least ≤ d.toNat ∧ d.toNat ≤ 126 then .ok (d, r) else .error (d :: r) := rfl
theorem tkL_loc (least : Nat) (x : By) : Loc (tkL least) c t m x := by
  cases x with
  | nil =>
    refine ⟨fun y z h => ?_, fun z h => ?_⟩
    · rw [List.nil_append, tk_cons] at h
      split at h
      · injection h with h; injection h with _ h
        have := cut_len' h
        omega
      · cases h
    · rw [List.nil_append, tk_cons] at h
      rw [List.nil_append, tk_cons]
      split at h
      · cases h
      · rename_i hc
        injection h with h
        have hz : z = [] := (app_inj (x := []) (t := c :: t) (by simpa using h)).symm
        rw [if_neg hc, hz, List.nil_append]
  | cons d x =>
    refine ⟨fun y z h => ?_, fun z h => ?_⟩
    · rw [List.cons_append, tk_cons] at h
      rw [List.cons_append, tk_cons]
      split at h
      · rename_i hc
        injection h with h; injection h with h1 h2
        rw [if_pos hc, h1, app_inj h2]
      · cases h
    · rw [List.cons_append, tk_cons] at h
      rw [List.cons_append, tk_cons]
      split at h
      · cases h
      · rename_i hc
        injection h with h
        have hz : d :: x = z := app_inj (t := c :: t) (by simpa using h)
        rw [if_neg hc, ← hz]
        rfl
/-- What is read of what stands behind c leaves no c there. -/
theorem no_ok {α : Type} {F : By → Except By (α × By)} (hF : ∀ r y u, F r = .ok (y, u) → u.length ≤ r.length) {y : α} {z : By} (h : F t = .ok (y, z ++ c :: t)) : False := by
  have := hF _ _ _ h
  rw [List.length_append, List.length_cons] at this
  omega
theorem no_err {α : Type} {F : By → Except By (α × By)} (hF : ∀ r u, F r = .error u → u <:+ r) {z : By} (h : F t = .error (z ++ c :: t)) : False := by
  have := (hF _ _ h).length_le
  rw [List.length_append, List.length_cons] at this
  omega
theorem mbL_loc (least : Nat) (x : By) : Loc (mbL least) c t m x := by
  have hT := tkL_loc (c := c) (t := t) (m := m) least x
  have tk_le : ∀ r y u, tkL least r = .ok (y, u) → u.length ≤ r.length := fun r y u h => by rw [(tkL_ok h).1]; simp
  have tk_sf : ∀ r u, tkL least r = .error u → u <:+ r := fun r u h => by rw [tkL_err h]; exact List.suffix_refl _
  refine ⟨fun y z h => ?_, fun z h => ?_⟩
  · unfold mbL at h ⊢
    rw [pre1 92 c x m t, pre1 93 c x m t, pre1 45 c x m t]
    split at h
    · rename_i hb
      rw [if_pos hb]
      cases x with
      | nil => exact (no_ok tk_le h).elim
      | cons d x => exact (tkL_loc (c := c) (t := t) (m := m) least x).ok y z h
    · rename_i hb
      rw [if_neg hb]
      split at h
      · cases h
      · rename_i hb2
        rw [if_neg hb2]
        exact hT.ok y z h
  · unfold mbL at h ⊢
    rw [pre1 92 c x m t, pre1 93 c x m t, pre1 45 c x m t]
    split at h
    · rename_i hb
      rw [if_pos hb]
      cases x with
      | nil => exact (no_err tk_sf h).elim
      | cons d x => exact (tkL_loc (c := c) (t := t) (m := m) least x).err z h
    · rename_i hb
      rw [if_neg hb]
      split at h
      · rename_i hb2
        rw [if_pos hb2]
        injection h with h
        rw [app_inj h]
      · rename_i hb2
        rw [if_neg hb2]
        exact hT.err z h
theorem itL_loc (x : By) : Loc itL c t m x := by
  have hM := mbL_loc (c := c) (t := t) (m := m) 32 x
  refine ⟨fun y z h => ?_, fun z h => ?_⟩
  · unfold itL at h ⊢
    cases h1 : mbL 32 (x ++ c :: t) with
    | error u => rw [h1] at h; cases h
    | ok p =>
      obtain ⟨lo, u⟩ := p
      rw [h1] at h
      simp only at h
      by_cases hb : [45].isPrefixOf u = true
      · rw [if_pos hb] at h
        cases h2 : mbL lo.toNat (u.drop 1) with
        | error v => rw [h2] at h; cases h
        | ok q =>
          obtain ⟨hi, v⟩ := q
          rw [h2] at h
          injection h with h; injection h with e1 e2
          subst e2
          obtain ⟨z', hz'⟩ := sfx ((mbL_ok h2).2.1.trans (drop1 hb).2)
          subst hz'
          rw [hM.ok _ _ h1]
          simp only
          rw [pre1 45 c z' m t, if_pos hb]
          cases z' with
          | nil => exact (no_ok (fun r y u h => Nat.le_of_lt (mbL_ok h).1) h2).elim
          | cons d z' =>
            rw [show (d :: z' ++ c :: m).drop 1 = z' ++ c :: m from rfl, (mbL_loc (c := c) (t := t) (m := m) lo.toNat z').ok _ _ h2]
            simp only
            rw [e1]
      · rw [if_neg hb] at h
        injection h with h; injection h with e1 e2
        subst e2
        rw [hM.ok _ _ h1]
        simp only
        rw [pre1 45 c z m t, if_neg hb, e1]
  · unfold itL at h ⊢
    cases h1 : mbL 32 (x ++ c :: t) with
    | error u =>
      rw [h1] at h
      injection h with h
      subst h
      rw [hM.err _ h1]
    | ok p =>
      obtain ⟨lo, u⟩ := p
      rw [h1] at h
      simp only at h
      by_cases hb : [45].isPrefixOf u = true
      · rw [if_pos hb] at h
        cases h2 : mbL lo.toNat (u.drop 1) with
        | ok q => obtain ⟨hi, v⟩ := q; rw [h2] at h; cases h
        | error v =>
          rw [h2] at h
          injection h with h
          subst h
          obtain ⟨z', hz'⟩ := sfx ((mbL_err h2).trans (drop1 hb).2)
          subst hz'
          rw [hM.ok _ _ h1]
          simp only
          rw [pre1 45 c z' m t, if_pos hb]
          cases z' with
          | nil => exact (no_err (fun r u h => mbL_err h) h2).elim
          | cons d z' => rw [show (d :: z' ++ c :: m).drop 1 = z' ++ c :: m from rfl, (mbL_loc (c := c) (t := t) (m := m) lo.toNat z').err _ h2]
      · rw [if_neg hb] at h
        cases h
theorem itsL_loc : ∀ (n n' : Nat) (x : By) (A : List Spn), (x ++ c :: t).length < n → (x ++ c :: m).length < n' → (∀ B z, itsL n (x ++ c :: t) A = .ok (B, z ++ c :: t) → itsL n' (x ++ c :: m) A = .ok (B, z ++ c :: m)) ∧ (∀ z, itsL n (x ++ c :: t) A = .error (z ++ c :: t) → itsL n' (x ++ c :: m) A = .error (z ++ c :: m))
  | 0, _, _, _, h, _ => absurd h (Nat.not_lt_zero _)
  | _, 0, _, _, _, h => absurd h (Nat.not_lt_zero _)
  | n + 1, n' + 1, x, A, hn, hn' => by
    have hI := itL_loc (c := c) (t := t) (m := m) x
    refine ⟨fun B z h => ?_, fun z h => ?_⟩
    · unfold itsL at h ⊢
      rw [pre1 93 c x m t]
      split at h
      · rename_i hb
        rw [if_pos hb]
        injection h with h; injection h with e1 e2
        cases x with
        | nil =>
          have := cut_len' (show t = z ++ c :: t from e2)
          omega
        | cons d x =>
          rw [e1, show (d :: x ++ c :: m).drop 1 = x ++ c :: m from rfl, app_inj (show x ++ c :: t = z ++ c :: t from e2)]
      · rename_i hb
        rw [if_neg hb]
        cases h1 : itL (x ++ c :: t) with
        | error u => rw [h1] at h; cases h
        | ok p =>
          obtain ⟨s, u⟩ := p
          rw [h1] at h
          simp only at h
          obtain ⟨z', hz'⟩ : ∃ z', u = z' ++ c :: t := by
            rcases Nat.lt_or_ge u.length (c :: t).length with hlt | hge
            · exfalso
              have := itsL_len h
              rw [List.length_append] at this
              omega
            · obtain ⟨_, a2, _⟩ := itL_ok h1
              obtain ⟨y, hy⟩ := a2
              have := List.append_eq_append_iff.1 hy
              rcases this with ⟨a', h3, h4⟩ | ⟨a', h3, h4⟩
              · exact ⟨a', h4⟩
              · have h5 : a' = [] := by
                  have h6 := congrArg List.length h4
                  rw [List.length_append] at h6
                  exact List.eq_nil_of_length_eq_zero (by omega)
                rw [h5, List.nil_append] at h4
                exact ⟨[], h4.symm⟩
          subst hz'
          obtain ⟨a1, _⟩ := itL_ok h1
          have h1' := hI.ok _ _ h1
          obtain ⟨b1, _⟩ := itL_ok h1'
          rw [h1']
          exact (itsL_loc n n' z' (A ++ [s]) (by omega) (by omega)).1 B z h
    · unfold itsL at h ⊢
      rw [pre1 93 c x m t]
      split at h
      · cases h
      · rename_i hb
        rw [if_neg hb]
        cases h1 : itL (x ++ c :: t) with
        | error u =>
          rw [h1] at h
          injection h with h
          subst h
          rw [hI.err _ h1]
        | ok p =>
          obtain ⟨s, u⟩ := p
          rw [h1] at h
          simp only at h
          obtain ⟨z', hz'⟩ := sfx (itsL_err h)
          subst hz'
          obtain ⟨a1, _⟩ := itL_ok h1
          have h1' := hI.ok _ _ h1
          obtain ⟨b1, _⟩ := itL_ok h1'
          rw [h1']
          exact (itsL_loc n n' z' (A ++ [s]) (by omega) (by omega)).2 z h
where
  itsL_len {n : Nat} {r u : By} {A B : List Spn} (h : itsL n r A = .ok (B, u)) : u.length ≤ r.length := by
    induction n generalizing r A with
    | zero => cases h
    | succ n ih =>
      unfold itsL at h
      split at h
      · injection h with h; injection h with _ h; subst h; simp
      · split at h
        · cases h
        · rename_i s t1 hi
          have := (itL_ok hi).1
          have := ih h
          omega
end
end Go.Proofs.Ytaiijdnfimclbaa
