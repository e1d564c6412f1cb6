/-
  awake, the chapter's examples: it answers true; nothing that was there has turned. Condition: the library's table of powers of ten reads as its text lays it.
-/
import Derived.Test.YtfjifedfenpbbaaDoorEx
namespace Go.Proofs.YtfjifedfenpbbaaDoor
open Go.RowKit Go.Lib

theorem cv_any (W : World) (n : Nat) (hn : n = W.heap.size) : Calls Tryd.prog 20 #[.slice (some ⟨n, 0, none⟩) 1 1] (W.alloc (.cells #[.int .i64 1, .int .i64 6] 36)) fun e w' => (∃ ao cap, e = .returned (.tuple #[.slice ao 4 cap, .int .i64 0]) ∧ ∃ b off, ao = some ⟨b, off, none⟩ ∧ w'.cell? ⟨b, off + 2, none⟩ = some (.int .i64 2) ∧ w'.cell? ⟨b, off + 3, none⟩ = some (.int .i64 31)) ∧ Below W.heap.size W w' := by
  subst hn
  have hat : SpAt (W.alloc (.cells #[.int .i64 1, .int .i64 6] 36)) (some ⟨W.heap.size, 0, none⟩) [(1, 6)] := .inr ⟨W.heap.size, 0, rfl, by simp, fun i hi => by
    obtain rfl : i = 0 := by simp at hi; omega
    exact ⟨by simp, by simp⟩⟩
  refine (cover_any _ 1 [(1, 6)] _ (by decide) hat).mono ?_
  rintro e w' ⟨⟨_, v, rfl, ho⟩ | ⟨h, _⟩, x⟩
  · rw [ex9.1] at ho
    obtain ⟨ao, cap, rfl, h1, h2⟩ := ho.shape
    obtain ⟨b, off, e, _, hc⟩ := h1.get (i := 1) (by decide)
    exact ⟨⟨ao, cap, rfl, b, off, e, (hc 1 (by decide)).1, (hc 1 (by decide)).2⟩, bt (al (Below.refl _ _) _) x (Nat.le_refl _)⟩
  · exact absurd ex9.2 h

set_option maxRecDepth 100000 in
set_option maxHeartbeats 8000000 in
theorem awake_any (w : World) (ht : Tab w) : Calls Tryd.prog 8 #[] w fun e w' => e = .returned (.bool true) ∧ Below w.heap.size w w' := by
  have c1 := parse_any [49, 48, 46, 48, 46, 48, 46, 50, 53, 53] (by decide)
  rw [ex1.1, ex1.2] at c1
  have c2 := parse_any [48, 49, 46, 50, 46, 51, 46, 52] (by decide)
  rw [ex2.1, ex2.2] at c2
  have c3 := fun w (h : Tab w) => print_any 167772415 w h
  rw [ex3.1, ex3.2] at c3
  obtain ⟨D, hD⟩ : ∃ D : ByteArray, D = ⟨#[49, 48, 46, 48, 46, 48, 46, 50, 53, 53]⟩ := ⟨_, rfl⟩
  rw [← hD] at c3
  have hd : D.toList = [49, 48, 46, 48, 46, 48, 46, 50, 53, 53] := by rw [hD, ByteArray.toList_eq]
  have c4 := parsePrefix_any [49, 48, 46, 48, 46, 48, 46, 48, 47, 56] (by decide)
  rw [ex4.1, ex4.2.1, ex4.2.2] at c4
  have c5 := parsePrefix_any [49, 48, 46, 48, 46, 48, 46, 49] (by decide)
  rw [ex5.1, ex5.2.1, ex5.2.2] at c5
  have c6 := parsePrefix_any [49, 48, 46, 48, 46, 48, 46, 49, 47, 56] (by decide)
  rw [ex6.1, ex6.2.1, ex6.2.2] at c6
  have c7 := fun w (h : Tab w) => printPrefix_any 167772161 32 w h
  rw [ex7.1, ex7.2] at c7
  obtain ⟨E, hE⟩ : ∃ E : ByteArray, E = ⟨#[49, 48, 46, 48, 46, 48, 46, 49, 47, 51, 50]⟩ := ⟨_, rfl⟩
  rw [← hE] at c7
  have he : E.toList = [49, 48, 46, 48, 46, 48, 46, 49, 47, 51, 50] := by rw [hE, ByteArray.toList_eq]
  clear hD hE
  have c8 := range_any 167772160 8
  rw [ex8.1, ex8.2.1, ex8.2.2] at c8
  have HT := hide ht
  clear ht
  go_enter Tryd.func8, Tryd.ntmps8
  go_wp2_with (first
    | (go_at_call 9; refine (c1 w).mono ?_; rintro e w1 ⟨rfl, x1⟩; have X1 := hide x1; clear x1 c1)
    | (go_at_call 9; refine (c2 w1).mono ?_; rintro e w2 ⟨rfl, x2⟩; have X2 := hide (bt X1.out x2 (Nat.le_refl _)); clear x2 c2)
    | (go_at_call 13; refine (c3 w2 (HT.out.below X2.out)).mono ?_; rintro e w3 ⟨rfl, x3⟩; have X3 := hide (bt X2.out x3 (Nat.le_refl _)); clear x3 c3)
    | (go_at_call 11; refine (c4 w3).mono ?_; rintro e w4 ⟨rfl, x4⟩; have X4 := hide (al (bt X3.out x4 (Nat.le_refl _)) (.cells #[.int .i64 167772160, .int .i64 8] 28)); have P4 := hide (heap_alloc_new w4 (.cells #[.int .i64 167772160, .int .i64 8] 28)); clear x4 c4)
    | (go_at_call 11; generalize w4.alloc (.cells #[.int .i64 167772160, .int .i64 8] 28) = W4 at *; refine (c5 W4).mono ?_; rintro e w5 ⟨rfl, x5⟩; have X5 := hide (al (bt X4.out x5 (Nat.le_refl _)) (.cells #[.int .i64 167772161, .int .i64 32] 28)); have P5 := hide (blk (al x5 (.cells #[.int .i64 167772161, .int .i64 32] 28)) P4.out); have Q5 := hide (heap_alloc_new w5 (.cells #[.int .i64 167772161, .int .i64 32] 28)); clear x5 c5)
    | (go_at_call 11; generalize w5.alloc (.cells #[.int .i64 167772161, .int .i64 32] 28) = W5 at *; refine (c6 W5).mono ?_; rintro e w6 ⟨rfl, x6⟩; have X6 := hide (al (bt X5.out x6 (Nat.le_refl _)) (.cells #[.int .i64 0, .int .i64 0] 28)); have P6 := hide (blk (al x6 (.cells #[.int .i64 0, .int .i64 0] 28)) P5.out); have Q6 := hide (blk (al x6 (.cells #[.int .i64 0, .int .i64 0] 28)) Q5.out); obtain ⟨q0, q1, _, _⟩ := two_get Q6.out; clear x6 c6)
    | (go_at_call 15; generalize w6.alloc (.cells #[.int .i64 0, .int .i64 0] 28) = W6 at *; refine (c7 W6 (HT.out.below X6.out)).mono ?_; rintro e w7 ⟨rfl, x7⟩; have X7 := hide (bt X6.out x7 (Nat.le_refl _)); have P7 := hide (blk x7 P6.out); have Q7 := hide (blk x7 Q6.out); obtain ⟨p0, p1, _, _⟩ := two_get P7.out; clear x7 c7 q0 q1)
    | (go_at_call 17; refine (c8 w7).mono ?_; rintro e w8 ⟨rfl, x8⟩; have X8 := hide (al (bt X7.out x8 (Nat.le_refl _)) (.cells #[.int .i64 167772160, .int .i64 184549375] 36)); have P8 := hide (blk (al x8 (.cells #[.int .i64 167772160, .int .i64 184549375] 36)) P7.out); have Q8 := hide (blk (al x8 (.cells #[.int .i64 167772160, .int .i64 184549375] 36)) Q7.out); have R8 := hide (heap_alloc_new w8 (.cells #[.int .i64 167772160, .int .i64 184549375] 36)); clear x8 c8 p0 p1)
    | (go_at_call 20; have hn8 : w8.heap.size + 1 = (w8.alloc (.cells #[.int .i64 167772160, .int .i64 184549375] 36)).heap.size := (by simp); generalize w8.alloc (.cells #[.int .i64 167772160, .int .i64 184549375] 36) = W8 at *; refine (cv_any W8 _ hn8).mono ?_; rintro e w9 ⟨⟨ao, cap, rfl, cb, off, rfl, k0, k1⟩, x9⟩; have X9 := hide (bt X8.out x9 (Nat.le_refl _)); have P9 := hide (blk x9 P8.out); have Q9 := hide (blk x9 Q8.out); have R9 := hide (blk x9 R8.out); obtain ⟨p0, p1, _, _⟩ := two_get P9.out; obtain ⟨q0, q1, _, _⟩ := two_get Q9.out; obtain ⟨r0, r1, _, _⟩ := two_get R9.out; clear x9))
  go_ret
  exact ⟨rfl, X9.out⟩
end Go.Proofs.YtfjifedfenpbbaaDoor
