/-
  The document's way of reading a set against the reader's: pure. No condition.
-/
import Derived.Test.YtaiijdnfimclbaaDmb
namespace Go.Proofs.Ytaiijdnfimclbaa

theorem tk_least {lo : Nat} (hlo : 32 ≤ lo) {r : By} : (∀ t, tkL 32 r = .error t → tkL lo r = .error t) ∧ (∀ c u, tkL 32 r = .ok (c, u) → tkL lo r = if lo ≤ c.toNat then .ok (c, u) else .error (c :: u)) := by
  cases r with
  | nil => exact ⟨fun t h => h, fun c u h => by cases h⟩
  | cons d r =>
    have e1 : ∀ l, tkL l (d :: r) = if l ≤ d.toNat ∧ d.toNat ≤ 126 then .ok (d, r) else .error (d :: r) := fun _ => rfl
    rw [e1, e1]
    refine ⟨fun t h => ?_, fun c u h => ?_⟩
    · by_cases h1 : 32 ≤ d.toNat ∧ d.toNat ≤ 126
      · rw [if_pos h1] at h; cases h
      · rw [if_neg h1] at h
        rw [if_neg (by omega)]
        exact h
    · by_cases h1 : 32 ≤ d.toNat ∧ d.toNat ≤ 126
      · rw [if_pos h1] at h
        injection h with h; injection h with h2 h3; subst h2 h3
        by_cases h4 : lo ≤ d.toNat
        · rw [if_pos h4, if_pos ⟨h4, h1.2⟩]
        · rw [if_neg h4, if_neg (by omega)]
      · rw [if_neg h1] at h; cases h
theorem mb_least {lo : Nat} (hlo : 32 ≤ lo) {r : By} : (∀ t, mbL 32 r = .error t → mbL lo r = .error t) ∧ (∀ c u, mbL 32 r = .ok (c, u) → mbL lo r = if lo ≤ c.toNat then .ok (c, u) else .error (c :: u)) := by
  unfold mbL
  by_cases h1 : ([92].isPrefixOf r) = true
  · rw [if_pos h1, if_pos h1]
    exact tk_least hlo
  · rw [if_neg h1, if_neg h1]
    by_cases h2 : ([93].isPrefixOf r || [45].isPrefixOf r) = true
    · rw [if_pos h2, if_pos h2]
      exact ⟨fun t h => h, fun c u h => by cases h⟩
    · rw [if_neg h2, if_neg h2]
      exact tk_least hlo
/-- An item, by what member tells of its bytes. -/
theorem it_err {r t : By} (h : mbL 32 r = .error t) : itL r = .error t := by unfold itL; rw [h]
theorem it_one {r t : By} {lo : UInt8} (h : mbL 32 r = .ok (lo, t)) (h2 : [45].isPrefixOf t = false) : itL r = .ok ((((lo.toNat : Nat) : Int), ((lo.toNat : Nat) : Int)), t) := by
  unfold itL
  rw [h]
  simp only
  rw [if_neg (by rw [h2]; decide)]
theorem it_rng {r t : By} {lo : UInt8} (h : mbL 32 r = .ok (lo, t)) (h2 : [45].isPrefixOf t = true) : itL r = match mbL lo.toNat (t.drop 1) with
    | .error u => .error u
    | .ok (hi, u) => .ok ((((lo.toNat : Nat) : Int), ((hi.toNat : Nat) : Int)), u) := by
  unfold itL
  rw [h]
  simp only
  rw [if_pos h2]
  cases mbL lo.toNat (t.drop 1) <;> rfl
theorem it_rng_err {r t u : By} {lo : UInt8} (h : mbL 32 r = .ok (lo, t)) (h2 : [45].isPrefixOf t = true) (h3 : mbL 32 (t.drop 1) = .error u) : itL r = .error u := by
  rw [it_rng h h2, (mb_least (mbL_ok h).2.2.1).1 _ h3]
theorem it_rng_low {r t u : By} {lo c : UInt8} (h : mbL 32 r = .ok (lo, t)) (h2 : [45].isPrefixOf t = true) (h3 : mbL 32 (t.drop 1) = .ok (c, u)) (h4 : c.toNat < lo.toNat) : itL r = .error (c :: u) := by
  rw [it_rng h h2, (mb_least (mbL_ok h).2.2.1).2 _ _ h3, if_neg (by omega)]
theorem it_rng_ok {r t u : By} {lo c : UInt8} (h : mbL 32 r = .ok (lo, t)) (h2 : [45].isPrefixOf t = true) (h3 : mbL 32 (t.drop 1) = .ok (c, u)) (h4 : ¬ c.toNat < lo.toNat) : itL r = .ok ((((lo.toNat : Nat) : Int), ((c.toNat : Nat) : Int)), u) := by
  rw [it_rng h h2, (mb_least (mbL_ok h).2.2.1).2 _ _ h3, if_pos (by omega)]
/-- One more round of the items. -/
theorem its_go {N : Nat} {r t : By} {A : List Spn} {x : Spn} (hm : (!A.isEmpty && [93].isPrefixOf r) = false) (h : itL r = .ok (x, t)) : itsL (N + 1) r A = itsL N t (A ++ [x]) := by
  conv => lhs; unfold itsL
  rw [if_neg (by rw [hm]; decide), h]
theorem its_bad {N : Nat} {r t : By} {A : List Spn} (hm : (!A.isEmpty && [93].isPrefixOf r) = false) (h : itL r = .error t) : itsL (N + 1) r A = .error t := by
  conv => lhs; unfold itsL
  rw [if_neg (by rw [hm]; decide), h]
theorem its_end {N : Nat} {r : By} {A : List Spn} (hm : (!A.isEmpty && [93].isPrefixOf r) = true) : itsL (N + 1) r A = .ok (A, r.drop 1) := by
  conv => lhs; unfold itsL
  rw [if_pos hm]
/-- A minus behind a range. -/
theorem its_minus {N : Nat} {r : By} {A : List Spn} (h : [45].isPrefixOf r = true) : itsL (N + 1) r A = .error r := by
  have h93 : [93].isPrefixOf r = false := by
    cases r with
    | nil => rfl
    | cons c r =>
      rw [pre1] at h ⊢
      have := of_decide_eq_true h
      subst this
      decide
  have h92 : [92].isPrefixOf r = false := by
    cases r with
    | nil => rfl
    | cons c r =>
      rw [pre1] at h ⊢
      have := of_decide_eq_true h
      subst this
      decide
  refine its_bad (by rw [h93, Bool.and_false]) (it_err ?_)
  unfold mbL
  rw [if_neg (by rw [h92]; decide), if_pos (by rw [h]; simp)]
/-- What a rest begins with. -/
theorem pre_at {s : By} {k : Nat} (h : k < s.length) (c : UInt8) : [c].isPrefixOf (s.drop k) = decide (s[k] = c) := by
  rw [drop_cons h, pre1]
  simp [eq_comm]
theorem pre_end {s : By} {k : Nat} (h : ¬ k < s.length) (c : UInt8) : [c].isPrefixOf (s.drop k) = false := by
  rw [List.drop_of_length_le (by omega)]
  rfl
/-- What is left lies at the end. -/
theorem suffix_at {s t : By} (h : t <:+ s) : t = s.drop (s.length - t.length) := by
  obtain ⟨p, rfl⟩ := h
  rw [List.length_append, Nat.add_sub_cancel, List.drop_left]
end Go.Proofs.Ytaiijdnfimclbaa
