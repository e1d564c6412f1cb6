/-
  The chapter's examples, reckoned. No condition.
-/
import Derived.Test.YtfjifedfenpbbaaDoorPrint
import Derived.Test.YtfjifedfenpbbaaDoorCover
namespace Go.Proofs.YtfjifedfenpbbaaDoor
open Go.RowKit Go.Lib

theorem blk {w w' : World} {b : Nat} {cs : Array Value} {T : TypeId} {fr : Nat × Nat} (x : Below w.heap.size w w') (h : w.heap[b]? = some (.cells cs T fr)) : w'.heap[b]? = some (.cells cs T fr) := (x.block b (lt_of_block h)).trans h
set_option maxRecDepth 100000 in
theorem ex1 : parN [49, 48, 46, 48, 46, 48, 46, 50, 53, 53] = 167772415 ∧ parE [49, 48, 46, 48, 46, 48, 46, 50, 53, 53] = 0 := by decide +kernel
set_option maxRecDepth 100000 in
theorem ex2 : parN [48, 49, 46, 50, 46, 51, 46, 52] = 0 ∧ parE [48, 49, 46, 50, 46, 51, 46, 52] = 30 := by decide +kernel
set_option maxRecDepth 100000 in
theorem ex3 : prtS 167772415 = [49, 48, 46, 48, 46, 48, 46, 50, 53, 53] ∧ prtE 167772415 = 0 := by decide +kernel
set_option maxRecDepth 100000 in
theorem ex4 : pfxA [49, 48, 46, 48, 46, 48, 46, 48, 47, 56] = 167772160 ∧ pfxB [49, 48, 46, 48, 46, 48, 46, 48, 47, 56] = 8 ∧ pfxE [49, 48, 46, 48, 46, 48, 46, 48, 47, 56] = 0 := by decide +kernel
set_option maxRecDepth 100000 in
theorem ex5 : pfxA [49, 48, 46, 48, 46, 48, 46, 49] = 167772161 ∧ pfxB [49, 48, 46, 48, 46, 48, 46, 49] = 32 ∧ pfxE [49, 48, 46, 48, 46, 48, 46, 49] = 0 := by decide +kernel
set_option maxRecDepth 100000 in
theorem ex6 : pfxA [49, 48, 46, 48, 46, 48, 46, 49, 47, 56] = 0 ∧ pfxB [49, 48, 46, 48, 46, 48, 46, 49, 47, 56] = 0 ∧ pfxE [49, 48, 46, 48, 46, 48, 46, 49, 47, 56] = 30 := by decide +kernel
set_option maxRecDepth 100000 in
theorem ex7 : pprS 167772161 32 = [49, 48, 46, 48, 46, 48, 46, 49, 47, 51, 50] ∧ pprE 167772161 32 = 0 := by decide +kernel
set_option maxRecDepth 100000 in
theorem ex8 : rngL 167772160 8 = 167772160 ∧ rngH 167772160 8 = 184549375 ∧ pprE 167772160 8 = 0 := by decide +kernel
set_option maxRecDepth 100000 in
theorem ex9 : covL [(1, 6)] = [(1, 32), (2, 31), (4, 31), (6, 32)] ∧ IsSet [(1, 6)] := by decide +kernel

end Go.Proofs.YtfjifedfenpbbaaDoor
