/-
  AddrPrints, walked: whatever it is given, it answers true; nothing that was there has turned. Condition: the library's table of powers of ten reads as its text lays it.
-/
import Derived.Test.YtfjifedfenpbbaaDoorRefS
import Derived.Test.YtfjifedfenpbbaaDoorBack
namespace Go.Proofs.YtfjifedfenpbbaaDoor
open Go.RowKit Go.Lib

set_option maxRecDepth 100000 in
set_option maxHeartbeats 2000000 in
theorem addrPrints_any (n a k : Int) (w : World) (ht : Tab w) :
    Calls Tryd.prog 4 #[.int .i64 n, .agg #[.int .i64 a, .int .i64 k]] w fun e w' => e = .returned (.bool true) ∧ Below w.heap.size w w' := by
  have S0 : St w w.heap.size a k (w.alloc (.cells #[.int .i64 a, .int .i64 k] 28)) := ⟨ht.below (al (Below.refl _ _) _), al (Below.refl _ _) _, heap_alloc_new w _⟩
  have d1 := fun (W : World) (h : St w w.heap.size a k W) => print_any n W h.tab
  have d2 := fun (W : World) => refPrint_any n W
  have d3 := fun (W : World) (h : St w w.heap.size a k W) => printPrefix_any a k W h.tab
  have d4 := fun (W : World) => refPrintPrefix_any a k W
  have d5 := fun (W : World) => range_any a k W
  have d6 := fun (W : World) => refRange_any a k W
  generalize prtS n = P1 at *
  generalize prtE n = P2 at *
  generalize pprS a k = P3 at *
  generalize pprE a k = P4 at *
  generalize rngL a k = P5 at *
  generalize rngH a k = P6 at *
  clear ht
  go_enter Tryd.func4, Tryd.ntmps4
  go_wp2_with (first
    | (go_at_call 8; generalize w.alloc (.cells #[.int .i64 a, .int .i64 k] 28) = W0 at *; refine (awake_any W0 S0.tab).mono ?_; rintro e w1 ⟨rfl, x1⟩; have S1 := S0.next x1; clear x1 S0)
    | (go_at_call 13; refine (d1 w1 S1).mono ?_; rintro e w2 ⟨rfl, x2⟩; have S2 := S1.next x2; clear x2 S1 d1)
    | (go_at_call 14; refine (d2 w2).mono ?_; rintro e w3 ⟨rfl, x3⟩; have S3 := S2.next x3; obtain ⟨p0, p1⟩ := S3.cells; clear x3 S2 d2)
    | (go_at_call 15; refine (d3 w3 S3).mono ?_; rintro e w4 ⟨rfl, x4⟩; have S4 := S3.next x4; obtain ⟨q0, q1⟩ := S4.cells; clear x4 S3 d3 p0 p1)
    | (go_at_call 16; refine (d4 w4).mono ?_; rintro e w5 ⟨rfl, x5⟩; have S5 := S4.next x5; obtain ⟨p0, p1⟩ := S5.cells; clear x5 S4 d4 q0 q1)
    | (go_at_call 17; refine (d5 w5).mono ?_; rintro e w6 ⟨rfl, x6⟩; have S6 := (S5.next x6).alloc (.cells #[.int .i64 P5, .int .i64 P6] 36); have R6 := hide (heap_alloc_new w6 (.cells #[.int .i64 P5, .int .i64 P6] 36)); obtain ⟨q0, q1⟩ := S6.cells; clear x6 S5 d5 p0 p1)
    | (go_at_call 18; generalize w6.alloc (.cells #[.int .i64 P5, .int .i64 P6] 36) = W6 at *; refine (d6 W6).mono ?_; rintro e w7 ⟨rfl, x7⟩; have S7 := (S6.next x7).alloc (.cells #[.int .i64 P5, .int .i64 P6] 36); have R7 := hide (blk (al x7 (.cells #[.int .i64 P5, .int .i64 P6] 36)) R6.out); obtain ⟨r0, r1, _, _⟩ := two_get R7.out; clear x7 S6 d6 q0 q1))
  go_ret
  exact ⟨rfl, S7.below⟩
end Go.Proofs.YtfjifedfenpbbaaDoor
