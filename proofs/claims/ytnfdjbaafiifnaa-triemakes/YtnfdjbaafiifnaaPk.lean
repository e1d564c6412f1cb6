/-
  The statements' pick and rows by their contracts. Condition: numbers are of the machine's kind; lists no longer than a process can hold.
-/
import Derived.Test.YtnfdjbaafiifnaaAwk
namespace Go.Proofs.Ytnfdjbaafiifnaa
open Go.RowKit Go.Lib

/-- A number of the machine's kind. -/
def Fit (x : Int) : Prop := -9223372036854775808 ≤ x ∧ x ≤ 9223372036854775807
/-- Which of n things c speaks of. -/
def pkZ (c : Int) (n : Nat) : Nat := (if c < 0 then -(c + 1) else c).toNat % n
theorem pkZ_lt (c : Int) {n : Nat} (h : 0 < n) : pkZ c n < n := Nat.mod_lt _ h
set_option maxRecDepth 100000 in
theorem pick_any (c : Int) (n : Nat) (hc : Fit c) (hn : 0 < n) (hn2 : n ≤ 8589934592) (w : World) : Calls Try.prog 11 #[.int .i64 c, .int .i64 n] w fun e w' => e = .returned (.int .i64 (pkZ c n : Nat)) ∧ w' = w := by
  unfold Fit at hc
  have hn0 : ¬ (n : Int) = 0 := by omega
  by_cases h : c < 0
  · have e : ((pkZ c n : Nat) : Int) = (-(c + 1)).tmod n := by
      unfold pkZ
      rw [if_pos h, Int.natCast_emod, Int.toNat_of_nonneg (by omega), Int.tmod_eq_emod_of_nonneg (by omega)]
    rw [e]
    clear e
    have w1 : IntKind.i64.wrap (c + 1) = c + 1 := by simp [IntKind.wrap, IntKind.bits, IntKind.signed]; omega
    have w2 : IntKind.i64.wrap (-(c + 1)) = -(c + 1) := by simp [IntKind.wrap, IntKind.bits, IntKind.signed]; omega
    go_enter Try.func11, Try.ntmps11
    rw [Int.neg_tmod]
    go_wp2
    go_ret
    exact ⟨rfl, rfl⟩
  · have e : ((pkZ c n : Nat) : Int) = c % n := by
      unfold pkZ
      rw [if_neg h, Int.natCast_emod, Int.toNat_of_nonneg (by omega)]
    rw [e]
    clear e
    go_enter Try.func11, Try.ntmps11
    go_wp2
    go_ret
    exact ⟨rfl, rfl⟩
set_option maxRecDepth 100000 in
set_option maxHeartbeats 1000000 in
theorem rowsSame_any (a1 a2 : Option Addr) (c1 c2 : Nat) (L : List RZ) (w : World) (hl : L.length ≤ 140737488351232) (h1 : RwAt w a1 L) (h2 : RwAt w a2 L) :
    Calls Try.prog 15 #[.slice a1 L.length c1, .slice a2 L.length c2] w fun e w' => e = .returned (.bool true) ∧ Below w.heap.size w w' := by
  go_enter Try.func15, Try.ntmps15
  go_wp2
  go_loopw [5] (fun x wr => ∃ k : Nat, k ≤ L.length ∧ x = .int .i64 k ∧ Hid (Below w.heap.size w wr)) (fun x _ => L.length - (RowKit.intOf x).toNat)
  case atStart => exact ⟨0, Nat.zero_le _, rfl, Below.refl _ _⟩
  case round =>
    obtain ⟨k, hk, rfl, HQ⟩ := hrel
    rename World => wr
    by_cases hlt : k < L.length
    · have hlt' : (k : Int) < (L.length : Int) := by omega
      rcases h1 with h | ⟨b, off, rfl, hb, hc⟩
      · rw [h] at hlt; simp at hlt
      rcases h2 with h | ⟨b', off', rfl, hb', hc'⟩
      · rw [h] at hlt; simp at hlt
      obtain ⟨p1, p2, p3⟩ := hc k hlt
      obtain ⟨q1, q2, q3⟩ := hc' k hlt
      have r1 := (HQ.out.cell (p := ⟨b, off + k * 3, none⟩) hb).trans p1
      have r2 := (HQ.out.cell (p := ⟨b, off + k * 3 + 1, none⟩) hb).trans p2
      have r3 := (HQ.out.cell (p := ⟨b, off + k * 3 + 2, none⟩) hb).trans p3
      have s1 := (HQ.out.cell (p := ⟨b', off' + k * 3, none⟩) hb').trans q1
      have s2 := (HQ.out.cell (p := ⟨b', off' + k * 3 + 1, none⟩) hb').trans q2
      have s3 := (HQ.out.cell (p := ⟨b', off' + k * 3 + 2, none⟩) hb').trans q3
      generalize L.getD k ((0, 0), 0) = z at *
      clear hc hc' p1 p2 p3 q1 q2 q3
      go_wp2
      go_quiet (fail)
      go_wp2
      go_roundw
      case rel => exact ⟨k + 1, by omega, by go_num, HQ.out.trans (below_drewN _ _ _)⟩
      case measure => simp [RowKit.intOf]; omega
    · have hlt' : ¬ (k : Int) < (L.length : Int) := by omega
      go_wp2
      go_ret
      exact ⟨rfl, HQ.out⟩
end Go.Proofs.Ytnfdjbaafiifnaa
