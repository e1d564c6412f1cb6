/-
  Scan by its contract, of a source of any length. Condition: the library's ErrRange reads as its text lays it.
-/
import Derived.Test.YtkpdbbbeagnjpaaDoorScq
namespace Go.Proofs.YtkpdbbbeagnjpaaDoor
open Go.RowKit Go.Lib

set_option maxHeartbeats 4000000 in
set_option maxRecDepth 100000 in
theorem scan_any (s : By) (w : World) (hev : ErrV w.heap.size w) :
    Calls Tryd.prog 6 #[.string ⟨s.toArray⟩] w fun e w' => ScnQ s w.heap.size e w' ∧ Below w.heap.size w w' := by
  by_cases hs : s.length ≤ 8000
  · exact scan_le s w hs hev
  · have hsz := bs_size s
    have hl' : (8000 : Int) < (s.length : Int) := by omega
    have HSC : Hid (scanQ s = .error (84, 8000)) := by unfold Hid scanQ; rw [if_pos (by omega)]
    clear hev hs
    go_enter Tryd.func6, Tryd.ntmps6
    go_wp2
    refine bodyPost_ret (by simp [results, Tryd.results6, go_sem]; rfl) rfl ?_
    refine ⟨?_, Below.refl _ _⟩
    unfold ScnQ
    rw [HSC.out]
end Go.Proofs.YtkpdbbbeagnjpaaDoor
