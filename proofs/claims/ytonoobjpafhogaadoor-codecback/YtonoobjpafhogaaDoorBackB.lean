/-
  number and text, by their contracts. Conditions: the item's numbers are ints.
-/
import Derived.Test.YtonoobjpafhogaaDoorBackA
namespace Go.Proofs.YtonoobjpafhogaaDoor
open Go.RowKit

theorem neg_rem (c n : Int) (h : c < 0) : -((c + 1).tmod n) = (-(c + 1)) % n := by rw [← Int.neg_tmod]; exact Int.tmod_eq_emod_of_nonneg (by omega)
theorem numI_at {o : OpD} {k : Nat} (h : szI o = (k : Int) + 1) (h8 : k ≠ 7) : numI o = absI o.size % (256 ^ (k + 1) : Nat) := by
  have e : (szI o).toNat = k + 1 := by omega
  rw [numI, if_neg (by omega), e]
theorem numI_8 {o : OpD} (h : szI o = 8) : numI o = absI o.size := by rw [numI, if_pos h]

set_option maxRecDepth 100000 in
set_option maxHeartbeats 2000000 in
theorem number_any (o : OpD) (ho : OpOk o) (w : World) :
    Calls Tryd.prog 45 #[.agg #[.int .i64 o.kind, .int .i64 o.on, .int .i64 o.size, .int .i64 o.n, .string o.s]] w fun e w' => e = .returned (.int .i64 (numI o)) ∧ Below w.heap.size w w' := by
  obtain ⟨o1, o2, o3, o4, o5⟩ := ho
  have hp : pickI o.on 8 = 0 ∨ pickI o.on 8 = 1 ∨ pickI o.on 8 = 2 ∨ pickI o.on 8 = 3 ∨ pickI o.on 8 = 4 ∨ pickI o.on 8 = 5 ∨ pickI o.on 8 = 6 ∨ pickI o.on 8 = 7 := by unfold pickI; omega
  have hz : szI o = 1 + pickI o.on 8 := rfl
  obtain ⟨kind, on, size, n, s⟩ := o
  simp only at o1 o2 o3 o4 o5 hp hz ⊢
  obtain ⟨o2a, o2b⟩ := o2
  obtain ⟨N, hN⟩ : ∃ N, numI ⟨kind, on, size, n, s⟩ = N := ⟨_, rfl⟩
  by_cases hneg : size < 0
  · have ha : absI size = -(size + 1) := by simp [absI, hneg]
    rcases hp with hp | hp | hp | hp | hp | hp | hp | hp
    case inr.inr.inr.inr.inr.inr.inr =>
      rw [hp] at hz
      have hv := numI_8 hz
      simp only [ha] at hv
      rw [hv]
      clear hz hv hN ha
      go_enter Tryd.func45, Tryd.ntmps45
      go_wp2_with fail
      refine (pick_any on 8 o2a o2b (by decide) (by decide) _).mono ?_
      rintro e w1 ⟨rfl, h1⟩
      subst h1
      rw [hp]
      clear hp
      go_wp2
      go_ret
      exact ⟨rfl, (Below.refl _ _).alloc (Nat.le_refl _) _⟩
    all_goals
      rw [hp] at hz
      have hv := numI_at (k := (pickI on 8).toNat) (by rw [hz, hp]; rfl) (by rw [hp]; decide)
      simp only [ha, hp] at hv
      rw [← neg_rem _ _ hneg] at hv
      rw [hv]
      clear hz hN ha
      have HV := hide hv
      clear hv
      go_enter Tryd.func45, Tryd.ntmps45
      go_wp2_with fail
      refine (pick_any on 8 o2a o2b (by decide) (by decide) _).mono ?_
      rintro e w1 ⟨rfl, h1⟩
      subst h1
      rw [hp]
      clear hp
      go_wp2
      go_ret
      exact ⟨rfl, (Below.refl _ _).alloc (Nat.le_refl _) _⟩
  · have ha : absI size = size := by simp [absI, hneg]
    rcases hp with hp | hp | hp | hp | hp | hp | hp | hp
    case inr.inr.inr.inr.inr.inr.inr =>
      rw [hp] at hz
      have hv := numI_8 hz
      simp only [ha] at hv
      rw [hv]
      clear hz hv hN ha
      go_enter Tryd.func45, Tryd.ntmps45
      go_wp2_with fail
      refine (pick_any on 8 o2a o2b (by decide) (by decide) _).mono ?_
      rintro e w1 ⟨rfl, h1⟩
      subst h1
      rw [hp]
      clear hp
      go_wp2
      go_ret
      exact ⟨rfl, (Below.refl _ _).alloc (Nat.le_refl _) _⟩
    all_goals
      rw [hp] at hz
      have hv := numI_at (k := (pickI on 8).toNat) (by rw [hz, hp]; rfl) (by rw [hp]; decide)
      simp only [ha, hp] at hv
      rw [hv]
      clear hz hN ha
      have HV := hide hv
      clear hv
      go_enter Tryd.func45, Tryd.ntmps45
      go_wp2_with fail
      refine (pick_any on 8 o2a o2b (by decide) (by decide) _).mono ?_
      rintro e w1 ⟨rfl, h1⟩
      subst h1
      rw [hp]
      clear hp
      go_wp2
      go_ret
      exact ⟨rfl, (Below.refl _ _).alloc (Nat.le_refl _) _⟩

theorem text_any (o : OpD) (ho : OpOk o) (w : World) :
    Calls Tryd.prog 46 #[.string o.s] w fun e w' => e = .returned (.string (str (txL o))) ∧ w' = w := by
  have o5 := ho.s
  have hx := extract_front o.s 65535
  have hy := str_of o.s
  obtain ⟨kind, on, size, n, s⟩ := o
  simp only [txL] at o5 hx hy ⊢
  by_cases h : 65535 < s.size
  · rw [← hx]
    clear hx hy
    go_enter Tryd.func46, Tryd.ntmps46
    go_wp2
    go_ret
    exact ⟨rfl, rfl⟩
  · have ht : s.data.toList.take 65535 = s.data.toList := List.take_of_length_le (by rw [len_list]; omega)
    rw [ht, hy]
    clear hx hy ht
    go_enter Tryd.func46, Tryd.ntmps46
    go_wp2
    go_ret
    exact ⟨rfl, rfl⟩
end Go.Proofs.YtonoobjpafhogaaDoor
