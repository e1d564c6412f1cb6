/-
  size by its contract once more, with its bounds. Conditions: the script's numbers are ints, its texts no longer than a process can hold.
-/
import Derived.Test.YtonoobjpafhogaaDoorScript
namespace Go.Proofs.YtonoobjpafhogaaDoor
open Go.RowKit

set_option maxRecDepth 100000 in
set_option maxHeartbeats 1000000 in
theorem size2_some (b off len cap : Nat) (f : Nat → OpD) (w : World) (hl : len ≤ 140737488351232) (hok : ∀ i, i < len → OpOk (f i)) (hat : ∀ i, i < len → OpAt w b off i (f i)) :
    Calls Tryd.prog 12 #[.slice (some ⟨b, off, none⟩) len cap] w fun e w' => ∃ N : Int, e = .returned (.int .i64 N) ∧ (0 ≤ N ∧ N ≤ 2147483648) ∧ (N ≤ 2147483647 → weight f len ≤ 2147483647) ∧ Below w.heap.size w w' := by
  go_enter Tryd.func12, Tryd.ntmps12
  go_wp2
  go_loopw [3, 4] (fun t i wr => ∃ (k : Nat) (N : Int), k ≤ len ∧ i = .int .i64 k ∧ t = .int .i64 N ∧ 0 ≤ N ∧ N ≤ 2147483648 ∧ Hid (N ≤ 2147483647 → N = weight f k) ∧ Below w.heap.size w wr) (fun _ i _ => len - (intOf i).toNat)
  case atStart => exact ⟨0, 0, Nat.zero_le _, rfl, rfl, by omega, by omega, fun _ => rfl, Below.refl _ _⟩
  case round =>
    obtain ⟨k, N, hk, rfl, rfl, hN0, hN1, hW, hq⟩ := hrel
    have HQ := hide hq
    clear hq
    by_cases hlt : k < len
    · have ho := (hok k hlt).s
      have hs : wr.cell? ⟨b, off + k * 5 + 4, none⟩ = some (.string (f k).s) := (HQ.out.cell (p := ⟨b, _, none⟩) (World.block_lt_of_cell? w _ (hat k hlt).s)).trans (hat k hlt).s
      by_cases hN : N ≤ 2147483647
      · obtain ⟨u1, u2, u3⟩ := addI_bounds N 100 hN0 (by decide)
        obtain ⟨v1, v2, v3⟩ := addI_bounds (addI N 100) (f k).s.size u1 (by omega)
        have HW : Hid (addI (addI N 100) (f k).s.size ≤ 2147483647 → addI (addI N 100) (f k).s.size = weight f (k + 1)) := by
          intro h
          have e1 := v3 h
          have e2 := u3 (by omega)
          have e3 := hW.out hN
          simp only [weight]
          omega
        clear u3 v3 hat
        go_wp2
        go_quiet ((go_at_call 18; exact Calls.quiet_of_same (add_any _ _ (by omega) (by omega) (by omega) (by omega) _)))
        go_wp2
        go_roundw
        case rel => exact ⟨k + 1, _, by omega, by go_num, rfl, v1, v2, HW.out, HQ.out.trans ⟨rfl, rfl, rfl, Nat.le_refl _, fun _ _ => rfl⟩⟩
        case measure => simp [intOf]; omega
      · go_wp2
        go_ret
        exact ⟨N, rfl, ⟨hN0, hN1⟩, fun h => absurd h (by omega), HQ.out⟩
    · have h8 : k = len := by omega
      subst h8
      go_wp2
      go_ret
      exact ⟨N, rfl, ⟨hN0, hN1⟩, fun h => by have := hW.out h; omega, HQ.out⟩
theorem size2_any (ao : Option Addr) (len cap : Nat) (f : Nat → OpD) (w : World) (h : Scr w ao len f) :
    Calls Tryd.prog 12 #[.slice ao len cap] w fun e w' => ∃ N : Int, e = .returned (.int .i64 N) ∧ (0 ≤ N ∧ N ≤ 2147483648) ∧ (N ≤ 2147483647 → weight f len ≤ 2147483647) ∧ Below w.heap.size w w' := by
  obtain ⟨hl, hok, h0 | ⟨b, off, rfl, hb, hat⟩⟩ := h
  · subst h0
    refine (size_none ao cap w).mono ?_
    rintro e w' ⟨rfl, rfl⟩
    exact ⟨0, rfl, by decide, fun _ => by simp [weight], Below.refl _ _⟩
  · exact size2_some b off len cap f w hl hok hat
theorem add2_any (n m : Int) (h1 : 0 ≤ n) (h2 : n ≤ 4611686018427387904) (h3 : 0 ≤ m) (h4 : m ≤ 9223372036854775807) (w : World) :
    Calls Tryd.prog 18 #[.int .i64 n, .int .i64 m] w fun e w' => e = .returned (.int .i64 (addI n m)) ∧ w' = w := by
  by_cases h : 2147483647 - n < m
  · have e : addI n m = 2147483648 := by simp [addI, h]
    rw [e]
    clear e
    go_enter Tryd.func18, Tryd.ntmps18
    go_wp2
    go_ret
    exact ⟨rfl, rfl⟩
  · have e : addI n m = n + m := by simp [addI, h]
    rw [e]
    clear e
    go_enter Tryd.func18, Tryd.ntmps18
    go_wp2
    go_ret
    exact ⟨rfl, rfl⟩

end Go.Proofs.YtonoobjpafhogaaDoor
