/-
  The closed cells of AtomRights' row, each by the kernel. No condition.
-/
import Derived.Test.YthgikaklcglpiaaGreatDoorRows
import Derived.JoinedOf
import Derived.RowKit
namespace Go.Proofs.YthgikaklcglpiaaGreatDoor.atomRightsDone
open Go.RowKit

set_option maxRecDepth 100000 in
set_option maxHeartbeats 20000000 in
theorem closed : joinedFacts Tryz.prog 4 Tryz.f4 Rows.atomRightsSpec Rows.atomRightsRow = true := by
  unfold joinedFacts
  simp only [Bool.and_eq_true]
  and_intros
  all_goals (as_aux_lemma => kernel_rfl)
end Go.Proofs.YthgikaklcglpiaaGreatDoor.atomRightsDone
