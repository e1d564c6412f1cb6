/-
  Make by its contract. Condition: a list is no longer than a process can hold.
-/
import Derived.Test.YtnfdjbaafiifnaaRd
namespace Go.Proofs.Ytnfdjbaafiifnaa
open Go.RowKit Go.Lib

set_option maxRecDepth 100000 in
set_option maxHeartbeats 1000000 in
theorem make_any (L : List RZ) (ao : Option Addr) (cap : Nat) (w : World) (hl : L.length ≤ 140737488351232) (hcap : L.length ≤ cap) (hat : RwAt w ao L) :
    Calls Try.prog 22 #[.slice ao L.length cap] w fun e w' => ((∃ t b, rdT 32 0 0 L = some (t, []) ∧ e = .returned (.tuple #[.pointer (some ⟨b, 0, none⟩), .int .i64 0]) ∧ TrieAt w' t (.pointer (some ⟨b, 0, none⟩)) ∧ w.heap.size ≤ b) ∨ ((∀ t, rdT 32 0 0 L ≠ some (t, [])) ∧ e = .returned (.tuple #[.pointer none, .int .i64 40]))) ∧ Below w.heap.size w w' := by
  have hr := read_any 32 0 0 L ao cap w rfl (by decide) hl hcap hat
  simp only [RdIs] at hr
  have HR := hide hr
  clear hr hat
  go_enter Try.func22, Try.ntmps22
  go_wp2_with (fail)
  refine HR.out.mono ?_
  rintro e w2 ⟨x2, h2⟩
  have X2 := hide x2
  clear x2 HR
  rcases h2 with ⟨t, L', p, a2, c2, r2, rfl, n2, _, _⟩ | ⟨r2, p, a2, n2, c2, rfl⟩
  · have N2 := hide n2
    have R2 := hide r2
    clear n2 r2
    by_cases h0 : L'.length = 0
    · obtain rfl : L' = [] := List.eq_nil_of_length_eq_zero h0
      simp only [List.length_nil]
      clear h0
      go_wp2
      go_ret2
      exact ⟨.inl ⟨_, _, R2.out, rfl, ⟨_, _, rfl, heap_alloc_new _ _, N2.out.below (al (Below.refl _ _) _)⟩, X2.out.size⟩, al X2.out _⟩
    · have h1 : (0 : Int) < (L'.length : Int) := by omega
      have HR2 : Hid (∀ t, rdT 32 0 0 L ≠ some (t, [])) := fun t' ht => by
        have := R2.out.symm.trans ht
        injection this with this
        injection this with _ this
        rw [this] at h0
        exact h0 rfl
      go_wp2
      go_ret2
      exact ⟨.inr ⟨HR2.out, rfl⟩, X2.out⟩
  · have HR2 : Hid (∀ t, rdT 32 0 0 L ≠ some (t, [])) := fun t' ht => by
      have := r2.symm.trans ht
      cases this
    clear r2
    go_wp2
    go_ret2
    exact ⟨.inr ⟨HR2.out, rfl⟩, X2.out⟩
end Go.Proofs.Ytnfdjbaafiifnaa
