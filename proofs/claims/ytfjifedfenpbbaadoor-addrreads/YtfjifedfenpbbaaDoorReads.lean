/-
  AddrReads, walked: whatever it is given, it answers true; nothing that was there has turned. Conditions: the library's table of powers of ten reads as its text lays it; each text takes no more than a process can hold.
-/
import Derived.Test.YtfjifedfenpbbaaDoorRefU
import Derived.Test.YtfjifedfenpbbaaDoorBack
namespace Go.Proofs.YtfjifedfenpbbaaDoor
open Go.RowKit Go.Lib

/-- What a walk keeps: what was there, the three texts. -/
structure S3 (w : World) (ab : Nat) (s t : ByteArray) (v : World) : Prop where
  below : Below w.heap.size w v
  at' : v.heap[ab]? = some (.cells #[.string s, .string t, .string s] 9 (0, 0))
theorem S3.next {w : World} {ab : Nat} {s t : ByteArray} {v v' : World} (h : S3 w ab s t v) (x : Below v.heap.size v v') : S3 w ab s t v' := ⟨bt h.below x (Nat.le_refl _), blk x h.at'⟩
theorem S3.alloc {w : World} {ab : Nat} {s t : ByteArray} {v : World} (h : S3 w ab s t v) (o : Obj) : S3 w ab s t (v.alloc o) := h.next (al (Below.refl _ _) o)
theorem S3.cells {w : World} {ab : Nat} {s t : ByteArray} {v : World} (h : S3 w ab s t v) : v.cell? ⟨ab, 0, none⟩ = some (.string s) ∧ v.cell? ⟨ab, 1, none⟩ = some (.string t) ∧ v.cell? ⟨ab, 2, none⟩ = some (.string s) :=
  ⟨by rw [cell_of_row v ab 0 _ _ _ h.at']; rfl, by rw [cell_of_row v ab 1 _ _ _ h.at']; rfl, by rw [cell_of_row v ab 2 _ _ _ h.at']; rfl⟩

set_option maxRecDepth 100000 in
set_option maxHeartbeats 2000000 in
theorem addrReads_any (l m : List UInt8) (hl : l.length ≤ 140737488351232) (hm : m.length ≤ 140737488351232) (w : World) (ht : Tab w) :
    Calls Tryd.prog 3 #[.string ⟨l.toArray⟩, .string ⟨m.toArray⟩] w fun e w' => e = .returned (.bool true) ∧ Below w.heap.size w w' := by
  have B0 := hide (Below.refl w.heap.size w)
  have a1 := fun w => parse_any l hl w
  have a2 := fun w => refParse_any l hl w
  have a3 := fun w => parsePrefix_any l hl w
  have a4 := fun w => refParsePrefix_any l hl w
  have b1 := fun w => parse_any m hm w
  have b2 := fun w => refParse_any m hm w
  have b3 := fun w => parsePrefix_any m hm w
  have b4 := fun w => refParsePrefix_any m hm w
  generalize parN l = l1 at *
  generalize parE l = l2 at *
  generalize pfxA l = l3 at *
  generalize pfxB l = l4 at *
  generalize pfxE l = l5 at *
  generalize parN m = m1 at *
  generalize parE m = m2 at *
  generalize pfxA m = m3 at *
  generalize pfxB m = m4 at *
  generalize pfxE m = m5 at *
  generalize (⟨l.toArray⟩ : ByteArray) = s at *
  generalize (⟨m.toArray⟩ : ByteArray) = t at *
  clear hl hm
  go_enter Tryd.func3, Tryd.ntmps3
  go_wp2_with (first
    | (go_at_call 8; refine (awake_any w ht).mono ?_; rintro e w1 ⟨rfl, x1⟩; have X1 := hide (bt B0.out x1 (Nat.le_refl _)); clear x1))
  have T1 : S3 w w1.heap.size s t (w1.alloc (.cells #[.string s, .string t, .string s] 9)) := ⟨al X1.out _, heap_alloc_new w1 _⟩
  generalize w1.alloc (.cells #[.string s, .string t, .string s] 9) = W1 at *
  generalize w1.heap.size = ab at *
  obtain ⟨c0, c1, c2⟩ := T1.cells
  refine wp_loop_rounds 4 ?_
  rw [rounds_succ]
  go_wp2_with (first
    | (go_at_call 9; refine (a1 _).mono ?_; rintro e u12 ⟨rfl, x2⟩; have T2 := T1.next x2; clear c0 c1 c2; obtain ⟨c0, c1, c2⟩ := T2.cells; clear x2 T1)
    | (go_at_call 10; refine (a2 _).mono ?_; rintro e u13 ⟨rfl, x3⟩; have T3 := T2.next x3; clear c0 c1 c2; obtain ⟨c0, c1, c2⟩ := T3.cells; clear x3 T2)
    | (go_at_call 11; refine (a3 _).mono ?_; rintro e u14 ⟨rfl, x4⟩; have T4 := (T3.next x4).alloc (.cells #[.int .i64 l3, .int .i64 l4] 28); have P4 := hide (heap_alloc_new u14 (.cells #[.int .i64 l3, .int .i64 l4] 28)); clear c0 c1 c2; obtain ⟨c0, c1, c2⟩ := T4.cells; clear x4 T3)
    | (go_at_call 12; generalize u14.alloc (.cells #[.int .i64 l3, .int .i64 l4] 28) = W4 at *; refine (a4 _).mono ?_; rintro e u15 ⟨rfl, x5⟩; have T5 := (T4.next x5).alloc (.cells #[.int .i64 l3, .int .i64 l4] 28); have P5 := hide (blk (al x5 (.cells #[.int .i64 l3, .int .i64 l4] 28)) P4.out); obtain ⟨p0, p1, _, _⟩ := two_get P5.out; clear c0 c1 c2; obtain ⟨c0, c1, c2⟩ := T5.cells; clear x5 T4 P4))
  clear p0 p1 P5
  generalize u15.alloc (.cells #[.int .i64 l3, .int .i64 l4] 28) = V1 at *
  have V1T := T5
  clear T5
  rw [rounds_succ]
  go_wp2_with (first
    | (go_at_call 9; refine (b1 _).mono ?_; rintro e u22 ⟨rfl, x2⟩; have T2 := V1T.next x2; clear c0 c1 c2; obtain ⟨c0, c1, c2⟩ := T2.cells; clear x2 V1T)
    | (go_at_call 10; refine (b2 _).mono ?_; rintro e u23 ⟨rfl, x3⟩; have T3 := T2.next x3; clear c0 c1 c2; obtain ⟨c0, c1, c2⟩ := T3.cells; clear x3 T2)
    | (go_at_call 11; refine (b3 _).mono ?_; rintro e u24 ⟨rfl, x4⟩; have T4 := (T3.next x4).alloc (.cells #[.int .i64 m3, .int .i64 m4] 28); have P4 := hide (heap_alloc_new u24 (.cells #[.int .i64 m3, .int .i64 m4] 28)); clear c0 c1 c2; obtain ⟨c0, c1, c2⟩ := T4.cells; clear x4 T3)
    | (go_at_call 12; generalize u24.alloc (.cells #[.int .i64 m3, .int .i64 m4] 28) = W4 at *; refine (b4 _).mono ?_; rintro e u25 ⟨rfl, x5⟩; have T5 := (T4.next x5).alloc (.cells #[.int .i64 m3, .int .i64 m4] 28); have P5 := hide (blk (al x5 (.cells #[.int .i64 m3, .int .i64 m4] 28)) P4.out); obtain ⟨p0, p1, _, _⟩ := two_get P5.out; clear c0 c1 c2; obtain ⟨c0, c1, c2⟩ := T5.cells; clear x5 T4 P4))
  clear p0 p1 P5
  generalize u25.alloc (.cells #[.int .i64 m3, .int .i64 m4] 28) = V2 at *
  have V2T := T5
  clear T5
  rw [rounds_succ]
  go_wp2_with (first
    | (go_at_call 9; refine (a1 _).mono ?_; rintro e u32 ⟨rfl, x2⟩; have T2 := V2T.next x2; clear c0 c1 c2; obtain ⟨c0, c1, c2⟩ := T2.cells; clear x2 V2T)
    | (go_at_call 10; refine (a2 _).mono ?_; rintro e u33 ⟨rfl, x3⟩; have T3 := T2.next x3; clear c0 c1 c2; obtain ⟨c0, c1, c2⟩ := T3.cells; clear x3 T2)
    | (go_at_call 11; refine (a3 _).mono ?_; rintro e u34 ⟨rfl, x4⟩; have T4 := (T3.next x4).alloc (.cells #[.int .i64 l3, .int .i64 l4] 28); have P4 := hide (heap_alloc_new u34 (.cells #[.int .i64 l3, .int .i64 l4] 28)); clear c0 c1 c2; obtain ⟨c0, c1, c2⟩ := T4.cells; clear x4 T3)
    | (go_at_call 12; generalize u34.alloc (.cells #[.int .i64 l3, .int .i64 l4] 28) = W4 at *; refine (a4 _).mono ?_; rintro e u35 ⟨rfl, x5⟩; have T5 := (T4.next x5).alloc (.cells #[.int .i64 l3, .int .i64 l4] 28); have P5 := hide (blk (al x5 (.cells #[.int .i64 l3, .int .i64 l4] 28)) P4.out); obtain ⟨p0, p1, _, _⟩ := two_get P5.out; clear c0 c1 c2; obtain ⟨c0, c1, c2⟩ := T5.cells; clear x5 T4 P4))
  clear p0 p1 P5
  generalize u35.alloc (.cells #[.int .i64 l3, .int .i64 l4] 28) = V3 at *
  have V3T := T5
  clear T5
  rw [rounds_succ]
  go_wp2
  go_ret
  exact ⟨rfl, V3T.below⟩
end Go.Proofs.YtfjifedfenpbbaaDoor
