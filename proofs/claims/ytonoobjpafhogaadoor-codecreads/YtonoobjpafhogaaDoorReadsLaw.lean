/-
  CodecReads, walked: of any two strings and any script it answers true; nothing that was there has turned. Conditions: the numbers are ints, each text and the script are no longer than a process can hold; the cell of errors.errorType holds the handle of 'error'.
-/
import Derived.Test.YtonoobjpafhogaaDoorReadsSt
namespace Go.Proofs.YtonoobjpafhogaaDoor
open Go.RowKit

set_option maxRecDepth 100000 in
set_option maxHeartbeats 4000000 in
theorem codecReads_some (s t : ByteArray) (hs : s.size ≤ 140737488351232) (ht : t.size ≤ 140737488351232) (sb so len cap : Nat) (f : Nat → OpD) (w : World) (hlen : len ≤ 140737488351232) (hok : ∀ i, i < len → OpOk (f i)) (hsb : sb < w.heap.size) (hat : ∀ i, i < len → OpAt w sb so i (f i)) (hg : HG w) :
    Calls Tryd.prog 5 #[.string s, .string t, .slice (some ⟨sb, so, none⟩) len cap] w fun e w' => e = .returned (.bool true) ∧ Below w.heap.size w w' := by
  have HOK := hide hok; have HAT := hide hat
  have HGG := hide hg
  have hpos := hg.pos
  clear hok hat hg
  go_enter Tryd.func5, Tryd.ntmps5
  go_wp2_with fail
  refine (size2_some sb so len cap f _ hlen HOK.out HAT.out).mono ?_
  rintro e w1 ⟨N1, rfl, hNb, _, hb1⟩
  obtain ⟨hn0, hn1⟩ := hNb
  have HB1 := hide hb1
  clear hb1
  obtain ⟨u1, u2, u3⟩ := addI_bounds (s.size : Int) (t.size : Int) (by omega) (by omega)
  obtain ⟨v1, v2, v3⟩ := addI_bounds N1 (addI (s.size : Int) (t.size : Int)) hn0 u1
  clear u3 v3
  go_wp2_with fail
  refine (add2_any (s.size : Int) (t.size : Int) (by omega) (by omega) (by omega) (by omega) _).mono ?_
  rintro e w1' ⟨rfl, hw1'⟩
  subst hw1'
  go_wp2_with fail
  refine (add_any N1 (addI (s.size : Int) (t.size : Int)) hn0 hn1 u1 (by omega) _).mono ?_
  rintro e w1' ⟨rfl, hw1'⟩
  subst hw1'
  generalize addI N1 (addI (s.size : Int) (t.size : Int)) = T at v1 v2 ⊢
  clear u1 u2
  by_cases hbig : 2147483647 < T
  · go_wp2
    go_ret
    exact ⟨rfl, HB1.out⟩
  go_wp2_with fail
  refine (awake_any _ (HGG.out.below HB1.out hpos)).mono ?_
  rintro e w2 ⟨rfl, hb2⟩
  have HB2 : Hid (Below w.heap.size w w2) := HB1.out.trans (hb2.mono HB1.out.size)
  clear hb2 HB1
  go_wp2_with fail
  refine (newReader_any s _).mono ?_
  rintro e w3 ⟨rfl, x3, y3, z3⟩
  generalize e3 : w2.heap.size = b0 at x3 y3 z3 ⊢
  have X3 := hide x3; have Y3 := hide y3; have Z3 := hide z3; have E3 := hide e3
  clear x3 y3 z3 e3
  go_wp2_with fail
  refine (newReader_any t _).mono ?_
  rintro e w4 ⟨rfl, x4, y4, z4⟩
  generalize e4 : w3.heap.size = b1 at x4 y4 z4 ⊢
  have X4 := hide x4; have Y4 := hide y4; have Z4 := hide z4; have E4 := hide e4
  clear x4 y4 z4 e4
  go_wp2_with fail
  refine (refNewReader_any s _).mono ?_
  rintro e w5 ⟨rfl, x5, y5, z5⟩
  simp only [World.size_alloc] at x5 y5 z5 ⊢
  generalize e5 : w4.heap.size = Bw at x5 y5 z5 ⊢
  have X5 := hide x5; have Y5 := hide y5; have Z5 := hide z5; have E5 := hide e5
  clear x5 y5 z5 e5
  go_wp2_with fail
  refine (refNewReader_any t _).mono ?_
  rintro e w6 ⟨rfl, x6, y6, z6⟩
  generalize e6 : w5.heap.size = c1 at x6 y6 z6 ⊢
  have X6 := hide x6; have Y6 := hide y6; have Z6 := hide z6; have E6 := hide e6
  clear x6 y6 z6 e6
  have M := hide (rst_start (by omega) (by omega) HGG.out HB2.out X3.out Y3.out Z3.out E3.out X4.out Y4.out Z4.out E4.out X5.out Y5.out Z5.out E5.out X6.out Y6.out Z6.out E6.out)
  clear X3 Y3 Z3 E3 X4 Y4 Z4 E4 X5 Y5 Z5 E5 X6 Y6 Z6 E6 HB2 hs ht
  obtain ⟨⟨q0, _⟩, ⟨q1, _⟩⟩ := M.out.ptrs
  go_wp2
  clear q0 q1
  generalize w6.heap.size = Bx at M ⊢
  generalize w6.alloc (.cells #[.pointer (some ⟨Bw + 1, 0, none⟩), .pointer (some ⟨c1, 0, none⟩)] 43) = W at M ⊢
  generalize Bw + 1 = c0 at M ⊢
  clear HGG
  go_loopw [10] (fun i wr => ∃ k : Nat, k ≤ len ∧ i = .int .i64 k ∧ ∃ E0 R0 R0' E1 R1 R1', Hid (RSt w.heap.size Bw Bx b0 b1 c0 c1 w wr E0 R0 R0' E1 R1 R1')) (fun i _ => len - (intOf i).toNat)
  case atStart => exact ⟨0, Nat.zero_le _, rfl, _, _, _, _, _, _, M.out⟩
  case round =>
    obtain ⟨k, hk, rfl, E0, R0, R0', E1, R1, R1', hst⟩ := hrel
    by_cases hlt : k < len
    · have C := hide (hst.out.cells (HAT.out k hlt) hsb)
      have a2 := C.out.1.2.2.2.1
      have O := HOK.out k hlt
      have HO := hide O
      obtain ⟨o1, o2, o3, o4, o5⟩ := O
      have hp : pickI (f k).on 2 = 0 ∨ pickI (f k).on 2 = 1 := by unfold pickI; omega
      go_wp2_with fail
      refine (pick_any (f k).on 2 o2.1 o2.2 (by decide) (by decide) _).mono ?_
      rintro e w7 ⟨rfl, h7⟩
      subst h7
      clear a2
      rcases hp with hp | hp
      · rw [hp]
        clear hp
        obtain ⟨g1, g2, g3, g4, g5, g6, g7⟩ := C.out.1
        go_wp2
        go_region_held3 (fun w' => w'.cell? ⟨Bw, 0, none⟩ = some (.pointer (some ⟨b0, 0, none⟩)) ∧ w'.cell? ⟨Bx, 0, none⟩ = some (.pointer (some ⟨c0, 0, none⟩)) ∧ w'.cell? ⟨sb, so + k * 5, none⟩ = some (.int .i64 (f k).kind) ∧ w'.cell? ⟨sb, so + k * 5 + 1, none⟩ = some (.int .i64 (f k).on) ∧ w'.cell? ⟨sb, so + k * 5 + 2, none⟩ = some (.int .i64 (f k).size) ∧ w'.cell? ⟨sb, so + k * 5 + 3, none⟩ = some (.int .i64 (f k).n) ∧ w'.cell? ⟨sb, so + k * 5 + 4, none⟩ = some (.string (f k).s)) (first | assumption | (simp [go_sem, *]; done))
          ((go_at_call 21; refine (reads0 (hst.out.quiet ((Below.refl _ _).drew)) (f k) HO.out).mono ?_; rintro e w8 ⟨rfl, E9, R9, R9', x8⟩; have M8 := hide x8; have g8 := (x8.cells (HAT.out k hlt) hsb).1; clear x8))
        clear g8 g1 g2 g3 g4 g5 g6 g7 C hst
        go_wp2
        refine wp_loop_rounds 3 ?_
        rw [rounds_succ]
        have hD : RSt w.heap.size Bw Bx b0 b1 c0 c1 w _ _ _ _ _ _ _ := M8.out.quiet ((Below.refl _ _).drew)
        obtain ⟨g1, g2⟩ := hD.ptrs.1
        obtain ⟨g3, g4⟩ := M8.out.ptrs.1
        go_wp2
        go_region_held3 (fun w' => w'.cell? ⟨Bw, 0, none⟩ = some (.pointer (some ⟨b0, 0, none⟩)) ∧ w'.cell? ⟨Bx, 0, none⟩ = some (.pointer (some ⟨c0, 0, none⟩))) (first | assumption | (simp [go_sem, *]; done))
          (first | (go_at_call 22; refine (left0 hD).mono ?_; rintro e wx ⟨rfl, hwx⟩; subst hwx) | (go_at_call 23; refine (rleft0 hD).mono ?_; rintro e wx ⟨rfl, hwx⟩; subst hwx) | (go_at_call 24; refine (done0 hD).mono ?_; rintro e w9 ⟨rfl, x9⟩; have g9 := x9.ptrs.1) | (go_at_call 25; refine (rdone0 x9).mono ?_; rintro e wx ⟨rfl, hwx⟩; subst hwx))
        have M9 := hide x9
        clear g1 g2 g3 g4 g9 x9 hD M8
        go_wp2
        rw [rounds_succ]
        have hD : RSt w.heap.size Bw Bx b0 b1 c0 c1 w _ _ _ _ _ _ _ := M9.out.quiet ((Below.refl _ _).drew)
        obtain ⟨g1, g2⟩ := hD.ptrs.2
        obtain ⟨g3, g4⟩ := M9.out.ptrs.2
        go_wp2
        go_region_held3 (fun w' => w'.cell? ⟨Bw, 1, none⟩ = some (.pointer (some ⟨b1, 0, none⟩)) ∧ w'.cell? ⟨Bx, 1, none⟩ = some (.pointer (some ⟨c1, 0, none⟩))) (first | assumption | (simp [go_sem, *]; done))
          (first | (go_at_call 22; refine (left1 hD).mono ?_; rintro e wx ⟨rfl, hwx⟩; subst hwx) | (go_at_call 23; refine (rleft1 hD).mono ?_; rintro e wx ⟨rfl, hwx⟩; subst hwx) | (go_at_call 24; refine (done1 hD).mono ?_; rintro e w9 ⟨rfl, x9⟩; have g9 := x9.ptrs.2) | (go_at_call 25; refine (rdone1 x9).mono ?_; rintro e wx ⟨rfl, hwx⟩; subst hwx))
        have M10 := hide x9
        clear g1 g2 g3 g4 g9 x9 hD M9
        go_wp2
        rw [rounds_succ]
        go_wp2
        go_roundw
        case rel => exact ⟨k + 1, by omega, by go_num, _, _, _, _, _, _, M10.out⟩
        case measure => simp [intOf]; omega
      · rw [hp]
        clear hp
        obtain ⟨g1, g2, g3, g4, g5, g6, g7⟩ := C.out.2
        go_wp2
        go_region_held3 (fun w' => w'.cell? ⟨Bw, 1, none⟩ = some (.pointer (some ⟨b1, 0, none⟩)) ∧ w'.cell? ⟨Bx, 1, none⟩ = some (.pointer (some ⟨c1, 0, none⟩)) ∧ w'.cell? ⟨sb, so + k * 5, none⟩ = some (.int .i64 (f k).kind) ∧ w'.cell? ⟨sb, so + k * 5 + 1, none⟩ = some (.int .i64 (f k).on) ∧ w'.cell? ⟨sb, so + k * 5 + 2, none⟩ = some (.int .i64 (f k).size) ∧ w'.cell? ⟨sb, so + k * 5 + 3, none⟩ = some (.int .i64 (f k).n) ∧ w'.cell? ⟨sb, so + k * 5 + 4, none⟩ = some (.string (f k).s)) (first | assumption | (simp [go_sem, *]; done))
          ((go_at_call 21; refine (reads1 (hst.out.quiet ((Below.refl _ _).drew)) (f k) HO.out).mono ?_; rintro e w8 ⟨rfl, E9, R9, R9', x8⟩; have M8 := hide x8; have g8 := (x8.cells (HAT.out k hlt) hsb).2; clear x8))
        clear g8 g1 g2 g3 g4 g5 g6 g7 C hst
        go_wp2
        refine wp_loop_rounds 3 ?_
        rw [rounds_succ]
        have hD : RSt w.heap.size Bw Bx b0 b1 c0 c1 w _ _ _ _ _ _ _ := M8.out.quiet ((Below.refl _ _).drew)
        obtain ⟨g1, g2⟩ := hD.ptrs.1
        obtain ⟨g3, g4⟩ := M8.out.ptrs.1
        go_wp2
        go_region_held3 (fun w' => w'.cell? ⟨Bw, 0, none⟩ = some (.pointer (some ⟨b0, 0, none⟩)) ∧ w'.cell? ⟨Bx, 0, none⟩ = some (.pointer (some ⟨c0, 0, none⟩))) (first | assumption | (simp [go_sem, *]; done))
          (first | (go_at_call 22; refine (left0 hD).mono ?_; rintro e wx ⟨rfl, hwx⟩; subst hwx) | (go_at_call 23; refine (rleft0 hD).mono ?_; rintro e wx ⟨rfl, hwx⟩; subst hwx) | (go_at_call 24; refine (done0 hD).mono ?_; rintro e w9 ⟨rfl, x9⟩; have g9 := x9.ptrs.1) | (go_at_call 25; refine (rdone0 x9).mono ?_; rintro e wx ⟨rfl, hwx⟩; subst hwx))
        have M9 := hide x9
        clear g1 g2 g3 g4 g9 x9 hD M8
        go_wp2
        rw [rounds_succ]
        have hD : RSt w.heap.size Bw Bx b0 b1 c0 c1 w _ _ _ _ _ _ _ := M9.out.quiet ((Below.refl _ _).drew)
        obtain ⟨g1, g2⟩ := hD.ptrs.2
        obtain ⟨g3, g4⟩ := M9.out.ptrs.2
        go_wp2
        go_region_held3 (fun w' => w'.cell? ⟨Bw, 1, none⟩ = some (.pointer (some ⟨b1, 0, none⟩)) ∧ w'.cell? ⟨Bx, 1, none⟩ = some (.pointer (some ⟨c1, 0, none⟩))) (first | assumption | (simp [go_sem, *]; done))
          (first | (go_at_call 22; refine (left1 hD).mono ?_; rintro e wx ⟨rfl, hwx⟩; subst hwx) | (go_at_call 23; refine (rleft1 hD).mono ?_; rintro e wx ⟨rfl, hwx⟩; subst hwx) | (go_at_call 24; refine (done1 hD).mono ?_; rintro e w9 ⟨rfl, x9⟩; have g9 := x9.ptrs.2) | (go_at_call 25; refine (rdone1 x9).mono ?_; rintro e wx ⟨rfl, hwx⟩; subst hwx))
        have M10 := hide x9
        clear g1 g2 g3 g4 g9 x9 hD M9
        go_wp2
        rw [rounds_succ]
        go_wp2
        go_roundw
        case rel => exact ⟨k + 1, by omega, by go_num, _, _, _, _, _, _, M10.out⟩
        case measure => simp [intOf]; omega
    · have hkl : k = len := by omega
      subst hkl
      have hD : RSt w.heap.size Bw Bx b0 b1 c0 c1 w _ _ _ _ _ _ _ := hst.out.quiet ((Below.refl _ _).drew)
      obtain ⟨⟨g1, g2⟩, ⟨g3, g4⟩⟩ := hD.ptrs
      obtain ⟨⟨g5, g6⟩, ⟨g7, g8⟩⟩ := hst.out.ptrs
      go_wp2
      go_region_held3 (fun w' => (w'.cell? ⟨Bw, 0, none⟩ = some (.pointer (some ⟨b0, 0, none⟩)) ∧ w'.cell? ⟨Bx, 0, none⟩ = some (.pointer (some ⟨c0, 0, none⟩))) ∧ (w'.cell? ⟨Bw, 1, none⟩ = some (.pointer (some ⟨b1, 0, none⟩)) ∧ w'.cell? ⟨Bx, 1, none⟩ = some (.pointer (some ⟨c1, 0, none⟩)))) (first | assumption | (simp [go_sem, *]; done))
        (first | (go_at_call_of 24 (Value.pointer (some ⟨b0, 0, none⟩)); refine (done0 hD).mono ?_; rintro e w9 ⟨rfl, x9⟩; have g9 := x9.ptrs) | (go_at_call_of 25 (Value.pointer (some ⟨c0, 0, none⟩)); refine (rdone0 x9).mono ?_; rintro e wx ⟨rfl, hwx⟩; subst hwx) | (go_at_call_of 24 (Value.pointer (some ⟨b1, 0, none⟩)); refine (done1 x9).mono ?_; rintro e w10 ⟨rfl, x10⟩; have g10 := x10.ptrs) | (go_at_call_of 25 (Value.pointer (some ⟨c1, 0, none⟩)); refine (rdone1 x10).mono ?_; rintro e wx ⟨rfl, hwx⟩; subst hwx))
      have HBB := hide x10.below
      go_wp2
      go_ret
      exact ⟨rfl, HBB.out⟩

set_option maxRecDepth 100000 in
set_option maxHeartbeats 4000000 in
theorem codecReads_none (s t : ByteArray) (hs : s.size ≤ 140737488351232) (ht : t.size ≤ 140737488351232) (ao : Option Addr) (cap : Nat) (w : World) (hg : HG w) :
    Calls Tryd.prog 5 #[.string s, .string t, .slice ao 0 cap] w fun e w' => e = .returned (.bool true) ∧ Below w.heap.size w w' := by
  have HGG := hide hg
  have hpos := hg.pos
  clear hg
  have HSC : Hid (Scr w ao 0 (fun _ => ⟨0, 0, 0, 0, ByteArray.empty⟩)) := ⟨by omega, fun i hi => absurd hi (by omega), .inl rfl⟩
  go_enter Tryd.func5, Tryd.ntmps5
  go_wp2_with fail
  refine (size2_any ao 0 cap _ _ HSC.out).mono ?_
  rintro e w1 ⟨N1, rfl, hNb, _, hb1⟩
  obtain ⟨hn0, hn1⟩ := hNb
  have HB1 := hide hb1
  clear hb1
  obtain ⟨u1, u2, u3⟩ := addI_bounds (s.size : Int) (t.size : Int) (by omega) (by omega)
  obtain ⟨v1, v2, v3⟩ := addI_bounds N1 (addI (s.size : Int) (t.size : Int)) hn0 u1
  clear u3 v3
  go_wp2_with fail
  refine (add2_any (s.size : Int) (t.size : Int) (by omega) (by omega) (by omega) (by omega) _).mono ?_
  rintro e w1' ⟨rfl, hw1'⟩
  subst hw1'
  go_wp2_with fail
  refine (add_any N1 (addI (s.size : Int) (t.size : Int)) hn0 hn1 u1 (by omega) _).mono ?_
  rintro e w1' ⟨rfl, hw1'⟩
  subst hw1'
  generalize addI N1 (addI (s.size : Int) (t.size : Int)) = T at v1 v2 ⊢
  clear u1 u2
  by_cases hbig : 2147483647 < T
  · go_wp2
    go_ret
    exact ⟨rfl, HB1.out⟩
  go_wp2_with fail
  refine (awake_any _ (HGG.out.below HB1.out hpos)).mono ?_
  rintro e w2 ⟨rfl, hb2⟩
  have HB2 : Hid (Below w.heap.size w w2) := HB1.out.trans (hb2.mono HB1.out.size)
  clear hb2 HB1
  go_wp2_with fail
  refine (newReader_any s _).mono ?_
  rintro e w3 ⟨rfl, x3, y3, z3⟩
  generalize e3 : w2.heap.size = b0 at x3 y3 z3 ⊢
  have X3 := hide x3; have Y3 := hide y3; have Z3 := hide z3; have E3 := hide e3
  clear x3 y3 z3 e3
  go_wp2_with fail
  refine (newReader_any t _).mono ?_
  rintro e w4 ⟨rfl, x4, y4, z4⟩
  generalize e4 : w3.heap.size = b1 at x4 y4 z4 ⊢
  have X4 := hide x4; have Y4 := hide y4; have Z4 := hide z4; have E4 := hide e4
  clear x4 y4 z4 e4
  go_wp2_with fail
  refine (refNewReader_any s _).mono ?_
  rintro e w5 ⟨rfl, x5, y5, z5⟩
  simp only [World.size_alloc] at x5 y5 z5 ⊢
  generalize e5 : w4.heap.size = Bw at x5 y5 z5 ⊢
  have X5 := hide x5; have Y5 := hide y5; have Z5 := hide z5; have E5 := hide e5
  clear x5 y5 z5 e5
  go_wp2_with fail
  refine (refNewReader_any t _).mono ?_
  rintro e w6 ⟨rfl, x6, y6, z6⟩
  generalize e6 : w5.heap.size = c1 at x6 y6 z6 ⊢
  have X6 := hide x6; have Y6 := hide y6; have Z6 := hide z6; have E6 := hide e6
  clear x6 y6 z6 e6
  have M := hide (rst_start (by omega) (by omega) HGG.out HB2.out X3.out Y3.out Z3.out E3.out X4.out Y4.out Z4.out E4.out X5.out Y5.out Z5.out E5.out X6.out Y6.out Z6.out E6.out)
  clear X3 Y3 Z3 E3 X4 Y4 Z4 E4 X5 Y5 Z5 E5 X6 Y6 Z6 E6 HB2 hs ht
  obtain ⟨⟨q0, _⟩, ⟨q1, _⟩⟩ := M.out.ptrs
  go_wp2
  clear q0 q1
  generalize w6.heap.size = Bx at M ⊢
  generalize w6.alloc (.cells #[.pointer (some ⟨Bw + 1, 0, none⟩), .pointer (some ⟨c1, 0, none⟩)] 43) = W at M ⊢
  generalize Bw + 1 = c0 at M ⊢
  clear HGG
  refine wp_loop_rounds 1 ?_
  rw [rounds_succ]
  have hD : RSt w.heap.size Bw Bx b0 b1 c0 c1 w _ _ _ _ _ _ _ := M.out.quiet ((Below.refl _ _).drew)
  obtain ⟨⟨g1, g2⟩, ⟨g3, g4⟩⟩ := hD.ptrs
  obtain ⟨⟨g5, g6⟩, ⟨g7, g8⟩⟩ := M.out.ptrs
  go_wp2
  go_region_held3 (fun w' => (w'.cell? ⟨Bw, 0, none⟩ = some (.pointer (some ⟨b0, 0, none⟩)) ∧ w'.cell? ⟨Bx, 0, none⟩ = some (.pointer (some ⟨c0, 0, none⟩))) ∧ (w'.cell? ⟨Bw, 1, none⟩ = some (.pointer (some ⟨b1, 0, none⟩)) ∧ w'.cell? ⟨Bx, 1, none⟩ = some (.pointer (some ⟨c1, 0, none⟩)))) (first | assumption | (simp [go_sem, *]; done))
    (first | (go_at_call_of 24 (Value.pointer (some ⟨b0, 0, none⟩)); refine (done0 hD).mono ?_; rintro e w9 ⟨rfl, x9⟩; have g9 := x9.ptrs) | (go_at_call_of 25 (Value.pointer (some ⟨c0, 0, none⟩)); refine (rdone0 x9).mono ?_; rintro e wx ⟨rfl, hwx⟩; subst hwx) | (go_at_call_of 24 (Value.pointer (some ⟨b1, 0, none⟩)); refine (done1 x9).mono ?_; rintro e w10 ⟨rfl, x10⟩; have g10 := x10.ptrs) | (go_at_call_of 25 (Value.pointer (some ⟨c1, 0, none⟩)); refine (rdone1 x10).mono ?_; rintro e wx ⟨rfl, hwx⟩; subst hwx))
  have HBB := hide x10.below
  go_wp2
  go_ret
  exact ⟨rfl, HBB.out⟩

theorem codecReads_any (s t : ByteArray) (hs : s.size ≤ 140737488351232) (ht : t.size ≤ 140737488351232) (ao : Option Addr) (len cap : Nat) (f : Nat → OpD) (w : World) (hsc : Scr w ao len f) (hg : HG w) :
    Calls Tryd.prog 5 #[.string s, .string t, .slice ao len cap] w fun e w' => e = .returned (.bool true) ∧ Below w.heap.size w w' := by
  obtain ⟨hl, hok, h0 | ⟨b, off, rfl, hb, hat⟩⟩ := hsc
  · subst h0
    exact codecReads_none s t hs ht ao cap w hg
  · exact codecReads_some s t hs ht b off len cap f w hl hok hb hat hg
end Go.Proofs.YtonoobjpafhogaaDoor
