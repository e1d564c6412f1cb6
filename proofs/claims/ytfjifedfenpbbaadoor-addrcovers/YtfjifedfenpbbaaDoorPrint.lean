/-
  Print, PrintPrefix, Range by their contracts. Condition: the library's table of powers of ten reads as its text lays it.
-/
import Derived.Test.YtfjifedfenpbbaaDoorLead
import Derived.Test.YtfjifedfenpbbaaDoorText
import Derived.Deep.RegionHeld3
namespace Go.Proofs.YtfjifedfenpbbaaDoor
open Go.RowKit Go.Lib

/-- An address's text. -/
def txt (n : Nat) : List UInt8 := dots (n / 16777216 % 256) (n / 65536 % 256) (n / 256 % 256) (n % 256)
def prtS (n : Int) : List UInt8 := if 0 ≤ n ∧ n ≤ 4294967295 then txt n.toNat else []
def prtE (n : Int) : Int := if 0 ≤ n ∧ n ≤ 4294967295 then 0 else 1

set_option maxRecDepth 100000 in
set_option maxHeartbeats 4000000 in
theorem print_any (n : Int) (w : World) (ht : Tab w) : Calls Tryd.prog 13 #[.int .i64 n] w fun e w' => e = .returned (.tuple #[.string ⟨(prtS n).toArray⟩, .int .i64 (prtE n)]) ∧ Below w.heap.size w w' := by
  by_cases h : 0 ≤ n ∧ n ≤ 4294967295
  · obtain ⟨m, rfl⟩ : ∃ m : Nat, n = m := ⟨n.toNat, by omega⟩
    have e1 : prtS (m : Int) = txt m := by simp [prtS, h.2]
    have e2 : prtE (m : Int) = 0 := by simp [prtE, h.2]
    have e3 : (decide (0 ≤ (m : Int)) && decide ((m : Int) ≤ 4294967295)) = true := by simp [h.2]
    rw [e1, e2]
    have hi := isWord_any (m : Int) w
    rw [e3] at hi
    have hx := fun w2 (x : Below w.heap.size w w2) => text_any (m / 16777216 % 256) (m / 65536 % 256) (m / 256 % 256) (m % 256) (by omega) (by omega) (by omega) (by omega) w2 (ht.below x)
    clear e1 e2 e3 ht
    go_enter Tryd.func13, Tryd.ntmps13
    go_wp2_with (first | (go_at_call 33; refine hi.mono ?_; rintro e w1 ⟨rfl, rfl⟩) | (go_at_call 34; refine (quadOf_any m _).mono ?_; rintro e w2 ⟨rfl, x2⟩; have X2 := hide x2; clear x2) | (go_at_call 35; refine (hx w2 X2.out).mono ?_; rintro e w3 ⟨rfl, x3⟩; have X3 := hide x3; clear x3))
    go_ret2
    exact ⟨rfl, bt X2.out X3.out (Nat.le_refl _)⟩
  · have e1 : prtS n = [] := by simp only [prtS, if_neg h]
    have e2 : prtE n = 1 := by simp only [prtE, if_neg h]
    have e3 : (decide (0 ≤ n) && decide (n ≤ 4294967295)) = false := by simp; omega
    rw [e1, e2]
    have hi := isWord_any n w
    rw [e3] at hi
    clear e1 e2 e3 ht
    go_enter Tryd.func13, Tryd.ntmps13
    go_wp2_with (go_at_call 33; refine hi.mono ?_; rintro e w1 ⟨rfl, rfl⟩)
    go_ret2
    exact ⟨rfl, Below.refl _ _⟩

def pprS (a k : Int) : List UInt8 := if Pfx a k then txt a.toNat ++ 47 :: Lib.decDigits k.toNat else []
def pprE (a k : Int) : Int := if Pfx a k then 0 else 1
theorem toList_arr (l : List UInt8) : (⟨l.toArray⟩ : ByteArray).toList = l := by rw [ByteArray.toList_eq]

set_option maxRecDepth 100000 in
set_option maxHeartbeats 4000000 in
theorem printPrefix_any (a k : Int) (w : World) (ht : Tab w) : Calls Tryd.prog 15 #[.agg #[.int .i64 a, .int .i64 k]] w fun e w' => e = .returned (.tuple #[.string ⟨(pprS a k).toArray⟩, .int .i64 (pprE a k)]) ∧ Below w.heap.size w w' := by
  have hB : Below w.heap.size w (w.alloc (.cells #[.int .i64 a, .int .i64 k] 28)) := al (Below.refl _ _) _
  have hr := fun w => right_any a k w
  by_cases h : Pfx a k
  · have e1 : pprS a k = txt a.toNat ++ 47 :: Lib.decDigits k.toNat := if_pos h
    have e2 : pprE a k = 0 := if_pos h
    rw [decide_eq_true h] at hr
    obtain ⟨n, b, rfl, rfl, hb, hn, hm⟩ := h.nat
    simp only [Int.toNat_natCast] at e1
    rw [e1, e2]
    clear e1 e2 h hm
    have q0 : (w.alloc (.cells #[.int .i64 (n : Int), .int .i64 (b : Int)] 28)).cell? ⟨w.heap.size, 0, none⟩ = some (.int .i64 (n : Int)) := by simp
    have q1 : (w.alloc (.cells #[.int .i64 (n : Int), .int .i64 (b : Int)] 28)).cell? ⟨w.heap.size, 1, none⟩ = some (.int .i64 (b : Int)) := by simp
    have hws : w.heap.size < (w.alloc (.cells #[.int .i64 (n : Int), .int .i64 (b : Int)] 28)).heap.size := by simp
    go_enter Tryd.func15, Tryd.ntmps15
    go_wp2_with (go_at_call 37; generalize w.alloc (.cells #[.int .i64 (n : Int), .int .i64 (b : Int)] 28) = W at *; refine (hr _).mono ?_; rintro e w1 ⟨rfl, x1⟩; have X1 := hide x1; have q2 := (x1.cell (p := ⟨w.heap.size, 0, none⟩) hws).trans q0; have q3 := (x1.cell (p := ⟨w.heap.size, 1, none⟩) hws).trans q1; clear x1 q0 q1)
    have hws1 : w.heap.size < w1.heap.size := Nat.lt_of_lt_of_le hws X1.out.size
    have HD : Hid (Below w1.heap.size w1 w1.drew) := (Below.refl _ _).drew
    have HT : Hid (Tab w1) := (ht.below hB).below X1.out
    have hx := fun w2 (x : Below w1.heap.size w1 w2) => text_any (n / 16777216 % 256) (n / 65536 % 256) (n / 256 % 256) (n % 256) (by omega) (by omega) (by omega) (by omega) w2 (HT.out.below x)
    have hy := fun w2 (x : Below w1.heap.size w1 w2) => itoa_any b (by omega) w2 (HT.out.below x)
    have HB := hide hB
    clear hB ht hr
    obtain ⟨D, hD⟩ : ∃ D : ByteArray, D = ⟨(dots (n / 16777216 % 256) (n / 65536 % 256) (n / 256 % 256) (n % 256)).toArray⟩ := ⟨_, rfl⟩
    obtain ⟨E, hE⟩ : ∃ E : ByteArray, E = ⟨(Lib.decDigits b).toArray⟩ := ⟨_, rfl⟩
    have hDs : D.size ≤ 15 := by rw [hD]; exact dots_length _ _ _ _ (by omega) (by omega) (by omega) (by omega)
    have hEs : E.size ≤ 2 := by
      have : ∀ k, k ≤ 32 → (Lib.decDigits k).length ≤ 2 := by decide +kernel
      rw [hE]; exact this b hb
    have s1 : ¬ (9223372036854775807 < D.size + 1) := by omega
    have s2 : ¬ (9223372036854775807 < D.size + 1 + E.size) := by omega
    rw [← hD] at hx
    rw [← hE] at hy
    have HE := hide hD
    have HF := hide hE
    clear hD hE hDs hEs
    refine wp_region_quiet (C := fun w' => Below w1.heap.size w1 w') (by kernel_rfl) (by kernel_rfl) HD.out ?_
    refine QW.out (l := _ :: _) ?_
    iterate 2 (refine QW.take (by rfl) ?_; apply Exists.intro; refine ⟨fun w' hw' => ?_, ?_⟩; (· (have g0 := (hw'.cell (p := ⟨w.heap.size, 0, none⟩) hws1).trans q2; have g1 := (hw'.cell (p := ⟨w.heap.size, 1, none⟩) hws1).trans q3; go_simp; first | done | (first | done | rfl))); try simp only [Act.put, List.setIfInBounds_toArray, List.set_cons_zero, List.set_cons_succ])
    iterate 2 (refine QW.take (by rfl) ?_; apply Exists.intro; refine ⟨fun w' hw' => ?_, ?_⟩; (· (have g0 := (hw'.cell (p := ⟨w.heap.size, 0, none⟩) hws1).trans q2; have g1 := (hw'.cell (p := ⟨w.heap.size, 1, none⟩) hws1).trans q3; go_simp; (first | (refine (quadOf_any n _).mono ?_; rintro e w2 ⟨rfl, x2⟩; exact ⟨rfl, hw'.trans (x2.mono hw'.size)⟩) | (refine (hx _ hw').mono ?_; rintro e w2 ⟨rfl, x2⟩; exact ⟨rfl, hw'.trans (x2.mono hw'.size)⟩) | (refine (hy _ hw').mono ?_; rintro e w2 ⟨rfl, x2⟩; exact ⟨rfl, hw'.trans (x2.mono hw'.size)⟩)))); try simp only [Act.put, List.setIfInBounds_toArray, List.set_cons_zero, List.set_cons_succ])
    iterate 3 (refine QW.take (by rfl) ?_; apply Exists.intro; refine ⟨fun w' hw' => ?_, ?_⟩; (· (have g0 := (hw'.cell (p := ⟨w.heap.size, 0, none⟩) hws1).trans q2; have g1 := (hw'.cell (p := ⟨w.heap.size, 1, none⟩) hws1).trans q3; go_simp; first | done | (first | done | rfl))); try simp only [Act.put, List.setIfInBounds_toArray, List.set_cons_zero, List.set_cons_succ])
    iterate 1 (refine QW.take (by rfl) ?_; apply Exists.intro; refine ⟨fun w' hw' => ?_, ?_⟩; (· (have g0 := (hw'.cell (p := ⟨w.heap.size, 0, none⟩) hws1).trans q2; have g1 := (hw'.cell (p := ⟨w.heap.size, 1, none⟩) hws1).trans q3; go_simp; (first | (refine (quadOf_any n _).mono ?_; rintro e w2 ⟨rfl, x2⟩; exact ⟨rfl, hw'.trans (x2.mono hw'.size)⟩) | (refine (hx _ hw').mono ?_; rintro e w2 ⟨rfl, x2⟩; exact ⟨rfl, hw'.trans (x2.mono hw'.size)⟩) | (refine (hy _ hw').mono ?_; rintro e w2 ⟨rfl, x2⟩; exact ⟨rfl, hw'.trans (x2.mono hw'.size)⟩)))); try simp only [Act.put, List.setIfInBounds_toArray, List.set_cons_zero, List.set_cons_succ])
    iterate 3 (refine QW.take (by rfl) ?_; apply Exists.intro; refine ⟨fun w' hw' => ?_, ?_⟩; (· (have g0 := (hw'.cell (p := ⟨w.heap.size, 0, none⟩) hws1).trans q2; have g1 := (hw'.cell (p := ⟨w.heap.size, 1, none⟩) hws1).trans q3; go_simp; first | done | (first | done | rfl))); try simp only [Act.put, List.setIfInBounds_toArray, List.set_cons_zero, List.set_cons_succ])
    refine QW.nil ?_
    intro w2 x2
    have X2 := hide x2
    clear x2 q2 q3 s1 s2 hx hy
    go_wp2
    go_ret2
    refine ⟨?_, bt (bt HB.out X1.out (Nat.le_refl _)) X2.out (Nat.le_refl _)⟩
    rw [show (⟨(txt n ++ 47 :: Lib.decDigits b).toArray⟩ : ByteArray) = D ++ ⟨#[47]⟩ ++ E by rw [HE.out, HF.out]; apply ByteArray.ext; simp [txt]]
    rfl
  · have e1 : pprS a k = [] := if_neg h
    have e2 : pprE a k = 1 := if_neg h
    rw [decide_eq_false h] at hr
    rw [e1, e2]
    have HB := hide hB
    clear e1 e2 ht hB
    go_enter Tryd.func15, Tryd.ntmps15
    go_wp2_with (go_at_call 37; refine (hr _).mono ?_; rintro e w1 ⟨rfl, x1⟩; have X1 := hide x1; clear x1)
    go_ret2
    exact ⟨rfl, bt HB.out X1.out (Nat.le_refl _)⟩

def rngH (a k : Int) : Int := if Pfx a k then a + 2 ^ (32 - k.toNat) - 1 else 0
def rngL (a k : Int) : Int := if Pfx a k then a else 0
set_option maxRecDepth 100000 in
set_option maxHeartbeats 4000000 in
theorem range_any (a k : Int) (w : World) : Calls Tryd.prog 17 #[.agg #[.int .i64 a, .int .i64 k]] w fun e w' => e = .returned (.tuple #[.agg #[.int .i64 (rngL a k), .int .i64 (rngH a k)], .int .i64 (pprE a k)]) ∧ Below w.heap.size w w' := by
  have hB : Below w.heap.size w ((w.alloc (.cells #[.int .i64 a, .int .i64 k] 28)).alloc (.cells #[.int .i64 0, .int .i64 0] 36)) := al (al (Below.refl _ _) _) _
  have hr := fun w => right_any a k w
  have q0 : ((w.alloc (.cells #[.int .i64 a, .int .i64 k] 28)).alloc (.cells #[.int .i64 0, .int .i64 0] 36)).cell? ⟨w.heap.size, 0, none⟩ = some (.int .i64 a) := by simp
  have q1 : ((w.alloc (.cells #[.int .i64 a, .int .i64 k] 28)).alloc (.cells #[.int .i64 0, .int .i64 0] 36)).cell? ⟨w.heap.size, 1, none⟩ = some (.int .i64 k) := by simp
  have hws : w.heap.size + 1 < ((w.alloc (.cells #[.int .i64 a, .int .i64 k] 28)).alloc (.cells #[.int .i64 0, .int .i64 0] 36)).heap.size := by simp
  have b0 := heap_alloc_new (w.alloc (.cells #[.int .i64 a, .int .i64 k] 28)) (.cells #[.int .i64 0, .int .i64 0] 36)
  rw [show (w.alloc (.cells #[.int .i64 a, .int .i64 k] 28)).heap.size = w.heap.size + 1 by simp] at b0
  by_cases h : Pfx a k
  · have e1 : rngL a k = a := if_pos h
    have e2 : rngH a k = a + 2 ^ (32 - k.toNat) - 1 := if_pos h
    have e3 : pprE a k = 0 := if_pos h
    rw [decide_eq_true h] at hr
    rw [e1, e2, e3]
    clear e1 e2 e3
    obtain ⟨n, b, rfl, rfl, hb, hn, hm⟩ := h.nat
    have hl := fun w2 => last_any (n / 16777216 % 256) (n / 65536 % 256) (n / 256 % 256) (n % 256) b (by omega) (by omega) (by omega) (by omega) hb (by rw [W4_of n hn]; exact hm) w2
    rw [W4_of n hn] at hl
    have hpw : 2 ^ (32 - b) ≤ 4294967296 := Nat.pow_le_pow_right (n := 2) (by decide) (show 32 - b ≤ 32 by omega)
    have hpo : 0 < 2 ^ (32 - b) := Nat.pow_pos (by decide)
    clear h hm
    go_enter Tryd.func17, Tryd.ntmps17
    go_wp2_with (go_at_call 37; generalize (w.alloc (.cells #[.int .i64 (n : Int), .int .i64 (b : Int)] 28)).alloc (.cells #[.int .i64 0, .int .i64 0] 36) = W at *; refine (hr _).mono ?_; rintro e w1 ⟨rfl, x1⟩; have B1 := hide ((x1.block (w.heap.size + 1) hws).trans b0); have q2 := (x1.cell (p := ⟨w.heap.size, 0, none⟩) (Nat.lt_of_succ_lt hws)).trans q0; have q3 := (x1.cell (p := ⟨w.heap.size, 1, none⟩) (Nat.lt_of_succ_lt hws)).trans q1; have X1 := hide x1; clear x1 q0 q1 b0)
    have hw1 : w.heap.size + 1 < w1.heap.size := Nat.lt_of_lt_of_le hws X1.out.size
    have HB := hide hB
    clear hB hr
    go_region_held3 (fun w' => w'.cell? ⟨w.heap.size, 0, none⟩ = some (.int .i64 (n : Int)) ∧ w'.cell? ⟨w.heap.size, 1, none⟩ = some (.int .i64 (b : Int))) (first | assumption | (simp [go_sem, *]; done))
      (first
        | (go_at_call 34; refine (quadOf_any n _).mono ?_; rintro e w2 ⟨rfl, x2⟩; have g2 : w2.cell? ⟨w.heap.size, 0, none⟩ = some (.int .i64 (n : Int)) := ((x2.cell (p := ⟨w.heap.size, 0, none⟩) (Nat.lt_of_succ_lt hw1)).trans q2); have g3 : w2.cell? ⟨w.heap.size, 1, none⟩ = some (.int .i64 (b : Int)) := ((x2.cell (p := ⟨w.heap.size, 1, none⟩) (Nat.lt_of_succ_lt hw1)).trans q3); have y2 : Below w1.heap.size w1 w2 := ((Below.refl _ _).drew.trans x2); have X2 := hide y2; clear x2 y2)
        | (go_at_call 39; refine (hl w2).mono ?_; rintro e w3 ⟨⟨a', b', c', d', ⟨l1, l2, l3, l4⟩, rfl, h5⟩, x3⟩; have g4 : w3.cell? ⟨w.heap.size, 0, none⟩ = some (.int .i64 (n : Int)) := ((x3.cell (p := ⟨w.heap.size, 0, none⟩) (Nat.lt_of_lt_of_le (Nat.lt_of_succ_lt hw1) X2.out.size)).trans g2); have g5 : w3.cell? ⟨w.heap.size, 1, none⟩ = some (.int .i64 (b : Int)) := ((x3.cell (p := ⟨w.heap.size, 1, none⟩) (Nat.lt_of_lt_of_le (Nat.lt_of_succ_lt hw1) X2.out.size)).trans g3); have X3 := hide (bt X2.out x3 (Nat.le_refl _)); have H5 := hide h5; clear x3 h5)
        | (go_at_call 26; have hwd := word_any a' b' c' d' l1 l2 l3 l4 w3; rw [H5.out] at hwd; refine hwd.mono ?_; rintro e w4 ⟨rfl, x4⟩; have X4 := hide (bt X3.out x4 (Nat.le_refl _)); have B4 := hide ((X4.out.block (w.heap.size + 1) hw1).trans B1.out); have r0 : w4.cell? ⟨w.heap.size + 1, 0, none⟩ = some (.int .i64 0) := (by rw [cell_of_row w4 (w.heap.size + 1) 0 _ _ _ B4.out]; rfl); have r1 : w4.cell? ⟨w.heap.size + 1, 1, none⟩ = some (.int .i64 0) := (by rw [cell_of_row w4 (w.heap.size + 1) 1 _ _ _ B4.out]; rfl); have f0 := frozen_of_row w4 (w.heap.size + 1) 0 _ _ B4.out; have f1 := frozen_of_row w4 (w.heap.size + 1) 1 _ _ B4.out; have g6 : w4.cell? ⟨w.heap.size, 0, none⟩ = some (.int .i64 (n : Int)) := ((X4.out.cell (p := ⟨w.heap.size, 0, none⟩) (Nat.lt_of_succ_lt hw1)).trans q2); have g7 : w4.cell? ⟨w.heap.size, 1, none⟩ = some (.int .i64 (b : Int)) := ((X4.out.cell (p := ⟨w.heap.size, 1, none⟩) (Nat.lt_of_succ_lt hw1)).trans q3); clear x4))
    clear g2 g3 g4 g5 g6 g7 q2 q3 r0 r1 f0 f1
    go_wp2
    have ev : ((n + 2 ^ (32 - b) - 1 : Nat) : Int) = (n : Int) + 2 ^ (32 - (b : Int).toNat) - 1 := by
      rw [Int.toNat_natCast, Int.natCast_sub (by omega)]
      simp
    rw [← ev]
    have b2 := block_setCell (block_setCell B4.out 0 (.int .i64 (n : Int))) 1 (.int .i64 ((n + 2 ^ (32 - b) - 1 : Nat) : Int))
    have k2 : Below w.heap.size w ((w4.setCell ⟨w.heap.size + 1, 0, none⟩ (.int .i64 (n : Int))).setCell ⟨w.heap.size + 1, 1, none⟩ (.int .i64 ((n + 2 ^ (32 - b) - 1 : Nat) : Int))) := ((bt (bt HB.out X1.out (Nat.le_refl _)) X4.out (Nat.le_refl _)).setCell (by simp) _).setCell (by simp) _
    generalize (w4.setCell ⟨w.heap.size + 1, 0, none⟩ (.int .i64 (n : Int))).setCell ⟨w.heap.size + 1, 1, none⟩ (.int .i64 ((n + 2 ^ (32 - b) - 1 : Nat) : Int)) = W2 at *
    have r3 : W2.cell? ⟨w.heap.size + 1, 0, none⟩ = some (.int .i64 (n : Int)) := by rw [cell_of_row W2 (w.heap.size + 1) 0 _ _ _ b2]; rfl
    have r4 : W2.cell? ⟨w.heap.size + 1, 1, none⟩ = some (.int .i64 ((n + 2 ^ (32 - b) - 1 : Nat) : Int)) := by rw [cell_of_row W2 (w.heap.size + 1) 1 _ _ _ b2]; rfl
    refine bodyPost_ret (by simp [results, Tryd.results17, go_sem, r3, r4]; try rfl) rfl ?_
    exact ⟨rfl, k2⟩
  · have e1 : rngL a k = 0 := if_neg h
    have e2 : rngH a k = 0 := if_neg h
    have e3 : pprE a k = 1 := if_neg h
    rw [decide_eq_false h] at hr
    rw [e1, e2, e3]
    clear e1 e2 e3
    go_enter Tryd.func17, Tryd.ntmps17
    go_wp2_with (go_at_call 37; generalize (w.alloc (.cells #[.int .i64 a, .int .i64 k] 28)).alloc (.cells #[.int .i64 0, .int .i64 0] 36) = W at *; refine (hr _).mono ?_; rintro e w1 ⟨rfl, x1⟩; have B1 := hide ((x1.block (w.heap.size + 1) hws).trans b0); have r0 : w1.cell? ⟨w.heap.size + 1, 0, none⟩ = some (.int .i64 0) := (by rw [cell_of_row w1 (w.heap.size + 1) 0 _ _ _ B1.out]; rfl); have r1 : w1.cell? ⟨w.heap.size + 1, 1, none⟩ = some (.int .i64 0) := (by rw [cell_of_row w1 (w.heap.size + 1) 1 _ _ _ B1.out]; rfl); have f0 := frozen_of_row w1 (w.heap.size + 1) 0 _ _ B1.out; have f1 := frozen_of_row w1 (w.heap.size + 1) 1 _ _ B1.out; have X1 := hide x1; clear x1)
    have b2 := block_setCell (block_setCell B1.out 0 (.int .i64 0)) 1 (.int .i64 0)
    have k2 : Below w.heap.size w ((w1.setCell ⟨w.heap.size + 1, 0, none⟩ (.int .i64 0)).setCell ⟨w.heap.size + 1, 1, none⟩ (.int .i64 0)) := ((bt hB X1.out (Nat.le_refl _)).setCell (by simp) _).setCell (by simp) _
    generalize (w1.setCell ⟨w.heap.size + 1, 0, none⟩ (.int .i64 0)).setCell ⟨w.heap.size + 1, 1, none⟩ (.int .i64 0) = W2 at *
    have r3 : W2.cell? ⟨w.heap.size + 1, 0, none⟩ = some (.int .i64 0) := by rw [cell_of_row W2 (w.heap.size + 1) 0 _ _ _ b2]; rfl
    have r4 : W2.cell? ⟨w.heap.size + 1, 1, none⟩ = some (.int .i64 0) := by rw [cell_of_row W2 (w.heap.size + 1) 1 _ _ _ b2]; rfl
    refine bodyPost_ret (by simp [results, Tryd.results17, go_sem, r3, r4]; try rfl) rfl ?_
    exact ⟨rfl, k2⟩
end Go.Proofs.YtfjifedfenpbbaaDoor
