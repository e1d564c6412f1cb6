/-
  first, last, leads by their contracts. Condition: a number of bits is 0 to 32.
-/
import Derived.Test.YtnfdjbaafiifnaaP04
namespace Go.Proofs.Ytnfdjbaafiifnaa
open Go.RowKit Go.Lib
set_option maxRecDepth 100000 in
set_option maxHeartbeats 4000000 in
theorem first_of (a b c d k : Nat) (ha : a < 256) (hb : b < 256) (hc : c < 256) (hd : d < 256) (w : World)
    (hm : ∀ w, Calls Try.prog 61 #[.int .i64 k] w fun e w' => e = .returned (.agg #[.int .u8 (mk k 0 : Nat), .int .u8 (mk k 1 : Nat), .int .u8 (mk k 2 : Nat), .int .u8 (mk k 3 : Nat)]) ∧ w' = (w.alloc (.cells #[.int .u8 (mk k 0 : Nat), .int .u8 (mk k 1 : Nat), .int .u8 (mk k 2 : Nat), .int .u8 (mk k 3 : Nat)] 88)).alloc (.cells #[.int .u8 (mk k 0 : Nat), .int .u8 (mk k 1 : Nat), .int .u8 (mk k 2 : Nat), .int .u8 (mk k 3 : Nat)] 88)) :
    Calls Try.prog 62 #[.agg #[.int .u8 a, .int .u8 b, .int .u8 c, .int .u8 d], .int .i64 k] w fun e w' => e = .returned (.agg #[.int .u8 (a &&& mk k 0 : Nat), .int .u8 (b &&& mk k 1 : Nat), .int .u8 (c &&& mk k 2 : Nat), .int .u8 (d &&& mk k 3 : Nat)]) ∧ Below w.heap.size w w' := by
  have e0 := u8_and_nat a (mk k 0) ha (mk_lt k 0)
  have e1 := u8_and_nat b (mk k 1) hb (mk_lt k 1)
  have e2 := u8_and_nat c (mk k 2) hc (mk_lt k 2)
  have e3 := u8_and_nat d (mk k 3) hd (mk_lt k 3)
  generalize mk k 0 = m0 at *
  generalize mk k 1 = m1 at *
  generalize mk k 2 = m2 at *
  generalize mk k 3 = m3 at *
  go_enter Try.func62, Try.ntmps62
  go_wp2_with (go_at_call 61; refine (hm _).mono ?_; rintro e w2 ⟨rfl, rfl⟩)
  refine wp_loop_rounds 5 ?_
  rw [rounds_succ]
  go_wp2
  go_region
  go_wp2
  rw [rounds_succ]
  go_wp2
  go_region
  go_wp2
  rw [rounds_succ]
  go_wp2
  go_region
  go_wp2
  rw [rounds_succ]
  go_wp2
  go_region
  go_wp2
  rw [rounds_succ]
  go_wp2
  refine bodyPost_ret (by simp [results, Try.results62, go_sem]; try rfl) rfl ?_
  refine ⟨rfl, ?_⟩
  exact (al (al (al (al (al (Below.refl _ _) _) _) _) _) _).drew.drew.drew.drew

set_option maxRecDepth 100000 in
set_option maxHeartbeats 4000000 in
theorem last_of (a b c d k : Nat) (ha : a < 256) (hb : b < 256) (hc : c < 256) (hd : d < 256) (w : World)
    (hm : ∀ w, Calls Try.prog 61 #[.int .i64 k] w fun e w' => e = .returned (.agg #[.int .u8 (mk k 0 : Nat), .int .u8 (mk k 1 : Nat), .int .u8 (mk k 2 : Nat), .int .u8 (mk k 3 : Nat)]) ∧ w' = (w.alloc (.cells #[.int .u8 (mk k 0 : Nat), .int .u8 (mk k 1 : Nat), .int .u8 (mk k 2 : Nat), .int .u8 (mk k 3 : Nat)] 88)).alloc (.cells #[.int .u8 (mk k 0 : Nat), .int .u8 (mk k 1 : Nat), .int .u8 (mk k 2 : Nat), .int .u8 (mk k 3 : Nat)] 88)) :
    Calls Try.prog 39 #[.agg #[.int .u8 a, .int .u8 b, .int .u8 c, .int .u8 d], .int .i64 k] w fun e w' => e = .returned (.agg #[.int .u8 (a ||| (255 ^^^ mk k 0) : Nat), .int .u8 (b ||| (255 ^^^ mk k 1) : Nat), .int .u8 (c ||| (255 ^^^ mk k 2) : Nat), .int .u8 (d ||| (255 ^^^ mk k 3) : Nat)]) ∧ Below w.heap.size w w' := by
  have g0 : bits BinOp.xor IntKind.u8 IntKind.u8.max (mk k 0 : Int) = ((255 ^^^ mk k 0 : Nat) : Int) := u8_xor_nat 255 (mk k 0) (by decide) (mk_lt k 0)
  have g1 : bits BinOp.xor IntKind.u8 IntKind.u8.max (mk k 1 : Int) = ((255 ^^^ mk k 1 : Nat) : Int) := u8_xor_nat 255 (mk k 1) (by decide) (mk_lt k 1)
  have g2 : bits BinOp.xor IntKind.u8 IntKind.u8.max (mk k 2 : Int) = ((255 ^^^ mk k 2 : Nat) : Int) := u8_xor_nat 255 (mk k 2) (by decide) (mk_lt k 2)
  have g3 : bits BinOp.xor IntKind.u8 IntKind.u8.max (mk k 3 : Int) = ((255 ^^^ mk k 3 : Nat) : Int) := u8_xor_nat 255 (mk k 3) (by decide) (mk_lt k 3)
  have e0 := u8_or_nat a (255 ^^^ mk k 0) ha (Nat.xor_lt_two_pow (n := 8) (by decide) (mk_lt k 0))
  have e1 := u8_or_nat b (255 ^^^ mk k 1) hb (Nat.xor_lt_two_pow (n := 8) (by decide) (mk_lt k 1))
  have e2 := u8_or_nat c (255 ^^^ mk k 2) hc (Nat.xor_lt_two_pow (n := 8) (by decide) (mk_lt k 2))
  have e3 := u8_or_nat d (255 ^^^ mk k 3) hd (Nat.xor_lt_two_pow (n := 8) (by decide) (mk_lt k 3))
  generalize 255 ^^^ mk k 0 = n0 at *
  generalize 255 ^^^ mk k 1 = n1 at *
  generalize 255 ^^^ mk k 2 = n2 at *
  generalize 255 ^^^ mk k 3 = n3 at *
  generalize mk k 0 = m0 at *
  generalize mk k 1 = m1 at *
  generalize mk k 2 = m2 at *
  generalize mk k 3 = m3 at *
  go_enter Try.func39, Try.ntmps39
  go_wp2_with (go_at_call 61; refine (hm _).mono ?_; rintro e w2 ⟨rfl, rfl⟩)
  refine wp_loop_rounds 5 ?_
  rw [rounds_succ]
  go_wp2
  go_region
  go_wp2
  rw [rounds_succ]
  go_wp2
  go_region
  go_wp2
  rw [rounds_succ]
  go_wp2
  go_region
  go_wp2
  rw [rounds_succ]
  go_wp2
  go_region
  go_wp2
  rw [rounds_succ]
  go_wp2
  refine bodyPost_ret (by simp [results, Try.results39, go_sem]; try rfl) rfl ?_
  refine ⟨rfl, ?_⟩
  exact (al (al (al (al (al (Below.refl _ _) _) _) _) _) _).drew.drew.drew.drew

set_option maxRecDepth 100000 in
set_option maxHeartbeats 4000000 in
theorem leads_of (a b c d k : Nat) (ha : a < 256) (hb : b < 256) (hc : c < 256) (hd : d < 256) (hk : k ≤ 32) (w : World)
    (hm : ∀ w, Calls Try.prog 61 #[.int .i64 k] w fun e w' => e = .returned (.agg #[.int .u8 (mk k 0 : Nat), .int .u8 (mk k 1 : Nat), .int .u8 (mk k 2 : Nat), .int .u8 (mk k 3 : Nat)]) ∧ w' = (w.alloc (.cells #[.int .u8 (mk k 0 : Nat), .int .u8 (mk k 1 : Nat), .int .u8 (mk k 2 : Nat), .int .u8 (mk k 3 : Nat)] 88)).alloc (.cells #[.int .u8 (mk k 0 : Nat), .int .u8 (mk k 1 : Nat), .int .u8 (mk k 2 : Nat), .int .u8 (mk k 3 : Nat)] 88)) :
    Calls Try.prog 60 #[.agg #[.int .u8 a, .int .u8 b, .int .u8 c, .int .u8 d], .int .i64 k] w fun e w' => e = .returned (.bool (decide (W4 a b c d % 2 ^ (32 - k) = 0))) ∧ Below w.heap.size w w' := by
  have hf := fun w => first_of a b c d k ha hb hc hd w hm
  have hl : decide (W4 a b c d % 2 ^ (32 - k) = 0) = decide (a &&& mk k 0 = a ∧ b &&& mk k 1 = b ∧ c &&& mk k 2 = c ∧ d &&& mk k 3 = d) := decide_eq_decide.2 (leads_iff a b c d k ha hb hc hd hk).symm
  rw [hl]
  clear hm hl
  generalize a &&& mk k 0 = m0 at *
  generalize b &&& mk k 1 = m1 at *
  generalize c &&& mk k 2 = m2 at *
  generalize d &&& mk k 3 = m3 at *
  go_enter Try.func60, Try.ntmps60
  go_wp2
  generalize hW : w.alloc (.cells #[.int .u8 (a : Int), .int .u8 (b : Int), .int .u8 (c : Int), .int .u8 (d : Int)] 88) = W
  have q0 : W.cell? ⟨w.heap.size, 0, none⟩ = some (.int .u8 (a : Int)) := by rw [← hW]; simp
  have q1 : W.cell? ⟨w.heap.size, 1, none⟩ = some (.int .u8 (b : Int)) := by rw [← hW]; simp
  have q2 : W.cell? ⟨w.heap.size, 2, none⟩ = some (.int .u8 (c : Int)) := by rw [← hW]; simp
  have q3 : W.cell? ⟨w.heap.size, 3, none⟩ = some (.int .u8 (d : Int)) := by rw [← hW]; simp
  have hws : w.heap.size < W.heap.size := by rw [← hW]; simp
  have HB : Hid (Below w.heap.size w W) := by rw [← hW]; exact al (Below.refl _ _) _
  have q5 := eq4 m0 m1 m2 m3 a b c d
  have HD : Hid (Below W.heap.size W W.drew) := (Below.refl _ _).drew
  refine wp_region_quiet (C := fun w' => Below W.heap.size W w') (by kernel_rfl) (by kernel_rfl) HD.out ?_
  refine QW.out (l := _ :: _) ?_
  iterate 2 (refine QW.take (by rfl) ?_; apply Exists.intro; refine ⟨fun w' hw' => ?_, ?_⟩; (· (have g0 := (hw'.cell (p := ⟨w.heap.size, 0, none⟩) hws).trans q0; have g1 := (hw'.cell (p := ⟨w.heap.size, 1, none⟩) hws).trans q1; have g2 := (hw'.cell (p := ⟨w.heap.size, 2, none⟩) hws).trans q2; have g3 := (hw'.cell (p := ⟨w.heap.size, 3, none⟩) hws).trans q3; go_simp; first | done | (first | done | rfl))); try simp only [Act.put, List.setIfInBounds_toArray, List.set_cons_zero, List.set_cons_succ])
  iterate 1 (refine QW.take (by rfl) ?_; apply Exists.intro; refine ⟨fun w' hw' => ?_, ?_⟩; (· (have g0 := (hw'.cell (p := ⟨w.heap.size, 0, none⟩) hws).trans q0; have g1 := (hw'.cell (p := ⟨w.heap.size, 1, none⟩) hws).trans q1; have g2 := (hw'.cell (p := ⟨w.heap.size, 2, none⟩) hws).trans q2; have g3 := (hw'.cell (p := ⟨w.heap.size, 3, none⟩) hws).trans q3; go_simp; (refine (hf _).mono ?_; rintro e w2 ⟨rfl, x2⟩; exact ⟨rfl, hw'.trans (x2.mono hw'.size)⟩))); try simp only [Act.put, List.setIfInBounds_toArray, List.set_cons_zero, List.set_cons_succ])
  iterate 3 (refine QW.take (by rfl) ?_; apply Exists.intro; refine ⟨fun w' hw' => ?_, ?_⟩; (· (have g0 := (hw'.cell (p := ⟨w.heap.size, 0, none⟩) hws).trans q0; have g1 := (hw'.cell (p := ⟨w.heap.size, 1, none⟩) hws).trans q1; have g2 := (hw'.cell (p := ⟨w.heap.size, 2, none⟩) hws).trans q2; have g3 := (hw'.cell (p := ⟨w.heap.size, 3, none⟩) hws).trans q3; go_simp; first | done | (first | done | rfl))); try simp only [Act.put, List.setIfInBounds_toArray, List.set_cons_zero, List.set_cons_succ])
  refine QW.nil ?_
  intro w2 x2
  have X2 := hide x2
  clear x2 q0 q1 q2 q3 q5
  go_wp2
  go_ret
  have e : (((m0 : Int) == a) && ((m1 : Int) == b) && ((m2 : Int) == c) && ((m3 : Int) == d)) = decide (m0 = a ∧ m1 = b ∧ m2 = c ∧ m3 = d) := by
    rw [Bool.eq_iff_iff]
    simp [and_assoc, Int.ofNat_inj]
  exact ⟨by rw [← e]; rfl, bt HB.out X2.out (Nat.le_refl _)⟩
end Go.Proofs.Ytnfdjbaafiifnaa
