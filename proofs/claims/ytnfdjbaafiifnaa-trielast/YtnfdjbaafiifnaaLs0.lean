/-
  The statements' last by its contract; rows that follow one another. Condition: a list no longer than a process can hold.
-/
import Derived.Test.YtnfdjbaafiifnaaSm0
namespace Go.Proofs.Ytnfdjbaafiifnaa
open Go.RowKit Go.Lib

theorem rng_al {r : Rw} (h : Al r) : rngL (r.1.1 : Nat) (r.1.2 : Nat) = (r.1.1 : Nat) ∧ rngH (r.1.1 : Nat) (r.1.2 : Nat) = ((r.1.1 + 2 ^ (32 - r.1.2) - 1 : Nat) : Int) ∧ pprE (r.1.1 : Nat) (r.1.2 : Nat) = 0 := by
  have hp := pfx_al h
  have hpw : 0 < 2 ^ (32 - r.1.2) := Nat.pow_pos (by decide)
  refine ⟨if_pos hp, ?_, if_pos hp⟩
  unfold rngH
  rw [if_pos hp, Int.toNat_natCast, Int.natCast_sub (by omega)]
  simp
/-- Range of a right prefix. -/
theorem rangeR_any (r : Rw) (h : Al r) (w : World) : Calls Try.prog 19 #[.agg #[.int .i64 (r.1.1 : Nat), .int .i64 (r.1.2 : Nat)]] w fun e w' => e = .returned (.tuple #[.agg #[.int .i64 (r.1.1 : Nat), .int .i64 (r.1.1 + 2 ^ (32 - r.1.2) - 1 : Nat)], .int .i64 0]) ∧ Below w.heap.size w w' := by
  have := range_any (r.1.1 : Nat) (r.1.2 : Nat) w
  obtain ⟨h1, h2, h3⟩ := rng_al h
  rwa [h1, h2, h3] at this
theorem lastZ_snoc (R : List Rw) (c : Int) (x : Nat) (r : Rw) : lastZ (R ++ [r]) c x = if inP r x then r.2 else lastZ R c x := by simp [lastZ]

set_option maxRecDepth 100000 in
set_option maxHeartbeats 4000000 in
theorem lastP_any (ga cA : Nat) (ao : Option Addr) (A : List Rw) (c : Int) (x : Nat) (w : World) (hl : A.length ≤ 33554431) (hal : ∀ r ∈ A, Al r) (hA : w.ownsRow ga 56 3 (.slice ao A.length cA) A.length (rwCells A)) :
    Calls Try.prog 21 #[.slice ao A.length cA, .int .i64 c, .int .i64 x] w fun e w' => e = .returned (.int .i64 (lastZ A c x)) ∧ Below w.heap.size w w' := by
  have HAL := hide hal
  have HA := hide hA
  have HPA : Hid (0 < A.length → ∃ g, ao = some ⟨g, 0, none⟩) := by
    obtain ⟨a', c', e, h⟩ := own_shape hA
    injection e with e1 _ _
    rw [e1]
    exact h
  clear hal hA
  go_enter Try.func21, Try.ntmps21
  go_wp2
  go_loopw [7, 8] (fun o i wr => ∃ k : Nat, k ≤ A.length ∧ i = .int .i64 k ∧ o = .int .i64 (lastZ (A.take k) c x) ∧ Hid (Below w.heap.size w wr)) (fun _ i _ => A.length - (RowKit.intOf i).toNat)
  case atStart => exact ⟨0, Nat.zero_le _, rfl, rfl, Below.refl _ _⟩
  case round =>
    obtain ⟨k, hk, rfl, rfl, X⟩ := hrel
    rename World => wr
    by_cases hlt : k < A.length
    · have hlt' : (k : Int) < (A.length : Int) := by omega
      obtain ⟨g, rfl⟩ := HPA.out (by omega)
      obtain ⟨c1, c2, c3⟩ := own_cell3 (own_below HA.out X.out) k hlt
      have HCE := hide (fun (w' : World) (x : Below w.heap.size w w') => own_cell3 (own_below HA.out x) k hlt)
      have HTK : Hid (lastZ (A.take (k + 1)) c x = if inP A[k] x then (A[k]).2 else lastZ (A.take k) c x) := by unfold Hid; rw [List.take_succ_eq_append_getElem hlt, lastZ_snoc]
      have hr := rangeR_any A[k] (HAL.out _ (List.getElem_mem hlt))
      have hin : inP A[k] x ↔ ((A[k].1.1 : Int) ≤ (x : Int) ∧ (x : Int) ≤ ((A[k].1.1 + 2 ^ (32 - A[k].1.2) - 1 : Nat) : Int)) := by
        have := Nat.pow_pos (n := 32 - A[k].1.2) (show 0 < 2 by decide)
        unfold inP
        omega
      generalize A[k] = r at *
      generalize hq : r.1.1 + 2 ^ (32 - r.1.2) - 1 = q at *
      generalize lastZ (A.take k) c x = z at *
      have HRG := hide hr
      clear hr hq
      go_wp2_with (fail)
      refine (HRG.out _).mono ?_
      rintro e w2 ⟨rfl, x2⟩
      have X2 := hide (al (bt X.out x2 (Nat.le_refl _)) (.cells #[.int .i64 (r.1.1 : Nat), .int .i64 (q : Nat)] 58))
      obtain ⟨d1, d2, d3⟩ := HCE.out _ X2.out
      have HIN := hide hin
      clear x2 c1 c2 c3 hin
      by_cases h1 : (r.1.1 : Int) ≤ (x : Int)
      · by_cases h2 : (x : Int) ≤ (q : Int)
        · have HE : Hid (lastZ (A.take (k + 1)) c x = r.2) := HTK.out.trans (if_pos (HIN.out.2 ⟨h1, h2⟩))
          go_wp2
          go_roundw
          case rel => exact ⟨k + 1, by omega, by go_num, by rw [HE.out], X2⟩
          case measure => simp [RowKit.intOf]; omega
        · have HE : Hid (lastZ (A.take (k + 1)) c x = z) := HTK.out.trans (if_neg (fun h => h2 (HIN.out.1 h).2))
          go_wp2
          go_roundw
          case rel => exact ⟨k + 1, by omega, by go_num, by rw [HE.out], X2⟩
          case measure => simp [RowKit.intOf]; omega
      · have HE : Hid (lastZ (A.take (k + 1)) c x = z) := HTK.out.trans (if_neg (fun h => h1 (HIN.out.1 h).1))
        go_wp2
        go_roundw
        case rel => exact ⟨k + 1, by omega, by go_num, by rw [HE.out], X2⟩
        case measure => simp [RowKit.intOf]; omega
    · have hkl : k = A.length := by omega
      subst hkl
      rw [List.take_length]
      go_wp2
      go_ret
      exact ⟨rfl, X.out⟩
end Go.Proofs.Ytnfdjbaafiifnaa
