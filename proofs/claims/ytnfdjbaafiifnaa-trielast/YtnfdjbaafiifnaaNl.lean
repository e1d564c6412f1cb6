/-
  New of a label. No condition.
-/
import Derived.Test.YtnfdjbaafiifnaaSm0
namespace Go.Proofs.Ytnfdjbaafiifnaa
open Go.RowKit Go.Lib

theorem newL_any (l : Int) (hl : Lab l) (w : World) : Calls Try.prog 9 #[.int .i64 l] w fun e w' => (∃ b, e = .returned (.tuple #[.pointer (some ⟨b, 0, none⟩), .int .i64 0]) ∧ TrieAt w' (.leaf l) (.pointer (some ⟨b, 0, none⟩)) ∧ w.heap.size ≤ b) ∧ Below w.heap.size w w' := (new_any l w).mono fun e w' ⟨h, x⟩ => by
  rcases h with ⟨_, v, h1, h2, b, rfl, h3⟩ | ⟨h1, _⟩
  · exact ⟨⟨b, h1, h2, h3⟩, x⟩
  · exact absurd hl h1
theorem lab_pk (c : Int) : Lab ((pkZ c 65536 : Nat) : Int) := by
  have := pkZ_lt c (n := 65536) (by decide)
  unfold Lab
  omega

end Go.Proofs.Ytnfdjbaafiifnaa
