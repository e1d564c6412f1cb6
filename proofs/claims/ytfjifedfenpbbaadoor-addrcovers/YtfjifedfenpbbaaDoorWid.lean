/-
  widest by its contract. Condition: the address and the bound are words.
-/
import Derived.Test.YtfjifedfenpbbaaDoorLead
import Derived.Test.YtfjifedfenpbbaaDoorCov
namespace Go.Proofs.YtfjifedfenpbbaaDoor
open Go.RowKit Go.Lib

set_option maxRecDepth 100000 in
set_option maxHeartbeats 4000000 in
theorem widest_any (a b c d n hi : Nat) (hW : W4 a b c d = n) (ha : a < 256) (hb : b < 256) (hc : c < 256) (hd : d < 256) (w : World) :
    Calls Tryd.prog 42 #[.agg #[.int .u8 a, .int .u8 b, .int .u8 c, .int .u8 d], .int .i64 hi] w fun e w' => e = .returned (.int .i64 (wd n hi : Nat)) ∧ Below w.heap.size w w' := by
  have hB : Below w.heap.size w (w.alloc (.cells #[.int .u8 (a : Int), .int .u8 (b : Int), .int .u8 (c : Int), .int .u8 (d : Int)] 55)) := al (Below.refl _ _) _
  have q0 : (w.alloc (.cells #[.int .u8 (a : Int), .int .u8 (b : Int), .int .u8 (c : Int), .int .u8 (d : Int)] 55)).cell? ⟨w.heap.size, 0, none⟩ = some (.int .u8 (a : Int)) := by simp
  have q1 : (w.alloc (.cells #[.int .u8 (a : Int), .int .u8 (b : Int), .int .u8 (c : Int), .int .u8 (d : Int)] 55)).cell? ⟨w.heap.size, 1, none⟩ = some (.int .u8 (b : Int)) := by simp
  have q2 : (w.alloc (.cells #[.int .u8 (a : Int), .int .u8 (b : Int), .int .u8 (c : Int), .int .u8 (d : Int)] 55)).cell? ⟨w.heap.size, 2, none⟩ = some (.int .u8 (c : Int)) := by simp
  have q3 : (w.alloc (.cells #[.int .u8 (a : Int), .int .u8 (b : Int), .int .u8 (c : Int), .int .u8 (d : Int)] 55)).cell? ⟨w.heap.size, 3, none⟩ = some (.int .u8 (d : Int)) := by simp
  have hws : w.heap.size < (w.alloc (.cells #[.int .u8 (a : Int), .int .u8 (b : Int), .int .u8 (c : Int), .int .u8 (d : Int)] 55)).heap.size := by simp
  have hn := W4_lt a b c d ha hb hc hd
  rw [hW] at hn
  have HN := hide hW
  clear hW
  go_enter Tryd.func42, Tryd.ntmps42
  go_wp2
  generalize w.alloc (.cells #[.int .u8 (a : Int), .int .u8 (b : Int), .int .u8 (c : Int), .int .u8 (d : Int)] 55) = W at *
  have HB := hide hB
  clear hB
  go_loopw [5] (fun i wr => ∃ k : Nat, k ≤ 32 ∧ i = .int .i64 k ∧ Hid (wd n hi = wid n hi k) ∧ Below W.heap.size W wr) (fun i _ => (RowKit.intOf i).toNat)
  case atStart => exact ⟨32, by omega, rfl, rfl, Below.refl _ _⟩
  case round =>
    obtain ⟨k, hk, rfl, HK, hq⟩ := hrel
    have HQ := hide hq
    have g0 := (hq.cell (p := ⟨w.heap.size, 0, none⟩) hws).trans q0
    have g1 := (hq.cell (p := ⟨w.heap.size, 1, none⟩) hws).trans q1
    have g2 := (hq.cell (p := ⟨w.heap.size, 2, none⟩) hws).trans q2
    have g3 := (hq.cell (p := ⟨w.heap.size, 3, none⟩) hws).trans q3
    have hwr : w.heap.size < wr.heap.size := Nat.lt_of_lt_of_le hws hq.size
    clear hq
    cases k with
    | zero =>
      have e : wd n hi = 0 := HK.out
      have HE := hide e
      clear e
      go_wp2
      go_ret
      exact ⟨by rw [HE.out]; rfl, bt HB.out HQ.out (Nat.le_refl _)⟩
    | succ j =>
      have hl := leads_any a b c d j ha hb hc hd (by omega) wr
      rw [HN.out] at hl
      have hj : ((j + 1 : Nat) : Int) - 1 = (j : Int) := by omega
      have hp1 : (0 : Int) < ((j + 1 : Nat) : Int) := by omega
      by_cases h1 : n % 2 ^ (32 - j) = 0
      · rw [decide_eq_true h1] at hl
        have hla := fun w2 => last_any a b c d j ha hb hc hd (by omega) (by rw [HN.out]; exact h1) w2
        rw [HN.out] at hla
        by_cases h2 : n + 2 ^ (32 - j) - 1 ≤ hi
        · have HK2 : Hid (wd n hi = wid n hi j) := by
            unfold Hid
            rw [HK.out, wid, if_pos ⟨h1, h2⟩]
          have h3 : ((n + 2 ^ (32 - j) - 1 : Nat) : Int) ≤ hi := by omega
          generalize n + 2 ^ (32 - j) - 1 = T at *
          clear HK h1
          go_wp2_with (first | (go_at_call 31; refine hl.mono ?_; rintro e w2 ⟨rfl, x2⟩; have X2 := hide x2; have y0 := (x2.cell (p := ⟨w.heap.size, 0, none⟩) hwr).trans g0; have y1 := (x2.cell (p := ⟨w.heap.size, 1, none⟩) hwr).trans g1; have y2 := (x2.cell (p := ⟨w.heap.size, 2, none⟩) hwr).trans g2; have y3 := (x2.cell (p := ⟨w.heap.size, 3, none⟩) hwr).trans g3; clear x2) | (go_at_call 39; refine (hla w2).mono ?_; rintro e w3 ⟨⟨a', b', c', d', ⟨l1, l2, l3, l4⟩, rfl, h5⟩, x3⟩; have X3 := hide x3; have H5 := hide h5; clear x3 h5) | (go_at_call 26; have hwd := word_any a' b' c' d' l1 l2 l3 l4 w3; rw [H5.out] at hwd; refine hwd.mono ?_; rintro e w4 ⟨rfl, x4⟩; have X4 := hide x4; clear x4 hwd))
          go_roundw
          case rel => exact ⟨j, by omega, by go_num, HK2, bt (bt (bt HQ.out X2.out (Nat.le_refl _)) X3.out (Nat.le_refl _)) X4.out (Nat.le_refl _)⟩
          case measure => simp [RowKit.intOf]
        · have HE : Hid (wd n hi = j + 1) := by
            unfold Hid
            rw [HK.out, wid, if_neg (fun h => h2 h.2)]
          have h3 : ¬ ((n + 2 ^ (32 - j) - 1 : Nat) : Int) ≤ hi := by omega
          generalize n + 2 ^ (32 - j) - 1 = T at *
          clear HK h1
          go_wp2_with (first | (go_at_call 31; refine hl.mono ?_; rintro e w2 ⟨rfl, x2⟩; have X2 := hide x2; have y0 := (x2.cell (p := ⟨w.heap.size, 0, none⟩) hwr).trans g0; have y1 := (x2.cell (p := ⟨w.heap.size, 1, none⟩) hwr).trans g1; have y2 := (x2.cell (p := ⟨w.heap.size, 2, none⟩) hwr).trans g2; have y3 := (x2.cell (p := ⟨w.heap.size, 3, none⟩) hwr).trans g3; clear x2) | (go_at_call 39; refine (hla w2).mono ?_; rintro e w3 ⟨⟨a', b', c', d', ⟨l1, l2, l3, l4⟩, rfl, h5⟩, x3⟩; have X3 := hide x3; have H5 := hide h5; clear x3 h5) | (go_at_call 26; have hwd := word_any a' b' c' d' l1 l2 l3 l4 w3; rw [H5.out] at hwd; refine hwd.mono ?_; rintro e w4 ⟨rfl, x4⟩; have X4 := hide x4; clear x4 hwd))
          go_ret
          exact ⟨by rw [HE.out]; rfl, bt (bt (bt (bt HB.out HQ.out (Nat.le_refl _)) X2.out (Nat.le_refl _)) X3.out (Nat.le_refl _)) X4.out (Nat.le_refl _)⟩
      · rw [decide_eq_false h1] at hl
        have HE : Hid (wd n hi = j + 1) := by
          unfold Hid
          rw [HK.out, wid, if_neg (fun h => h1 h.1)]
        go_wp2_with (go_at_call 31; refine hl.mono ?_; rintro e w2 ⟨rfl, x2⟩; have X2 := hide x2; clear x2)
        go_ret
        exact ⟨by rw [HE.out]; rfl, bt (bt HB.out HQ.out (Nat.le_refl _)) X2.out (Nat.le_refl _)⟩
end Go.Proofs.YtfjifedfenpbbaaDoor
