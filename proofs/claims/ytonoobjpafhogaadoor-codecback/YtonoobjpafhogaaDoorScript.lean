/-
  A script of calls as it lies in memory; pick, add and size by their contracts. Conditions: the numbers are ints.
-/
import Derived.Test.YtonoobjpafhogaaDoorAwake
import Derived.Deep.RegionHeld3
import Derived.Deep.QuietTactic
import Derived.BigQuiet
namespace Go.Proofs.YtonoobjpafhogaaDoor
open Go.RowKit

/-- One call of a script. -/
structure OpD where
  kind : Int
  on : Int
  size : Int
  n : Int
  s : ByteArray
/-- The i-th call of a script that begins at ⟨b, off⟩. -/
structure OpAt (w : World) (b off i : Nat) (o : OpD) : Prop where
  kind : w.cell? ⟨b, off + i * 5, none⟩ = some (.int .i64 o.kind)
  on : w.cell? ⟨b, off + i * 5 + 1, none⟩ = some (.int .i64 o.on)
  size : w.cell? ⟨b, off + i * 5 + 2, none⟩ = some (.int .i64 o.size)
  n : w.cell? ⟨b, off + i * 5 + 3, none⟩ = some (.int .i64 o.n)
  s : w.cell? ⟨b, off + i * 5 + 4, none⟩ = some (.string o.s)
/-- A call's numbers are ints, its text is no longer than a process can hold. -/
structure OpOk (o : OpD) : Prop where
  kind : -9223372036854775808 ≤ o.kind ∧ o.kind ≤ 9223372036854775807
  on : -9223372036854775808 ≤ o.on ∧ o.on ≤ 9223372036854775807
  size : -9223372036854775808 ≤ o.size ∧ o.size ≤ 9223372036854775807
  n : -9223372036854775808 ≤ o.n ∧ o.n ≤ 9223372036854775807
  s : o.s.size ≤ 140737488351232

theorem OpAt.below {w w' : World} {B b off i : Nat} {o : OpD} (h : OpAt w b off i o) (hb : Below B w w') (hB : b < B) : OpAt w' b off i o :=
  ⟨(hb.cell (p := ⟨b, _, none⟩) hB).trans h.kind, (hb.cell (p := ⟨b, _, none⟩) hB).trans h.on, (hb.cell (p := ⟨b, _, none⟩) hB).trans h.size, (hb.cell (p := ⟨b, _, none⟩) hB).trans h.n, (hb.cell (p := ⟨b, _, none⟩) hB).trans h.s⟩

/-- pick. -/
def pickI (c n : Int) : Int := (if c < 0 then -(c + 1) else c) % n
theorem pick_any (c n : Int) (h1 : -9223372036854775808 ≤ c) (h2 : c ≤ 9223372036854775807) (hn : 0 < n) (hn2 : n ≤ 9223372036854775807) (w : World) :
    Calls Tryd.prog 15 #[.int .i64 c, .int .i64 n] w fun e w' => e = .returned (.int .i64 (pickI c n)) ∧ w' = w := by
  have hne : (n == 0) = false := by rw [beq_eq_false_iff_ne]; omega
  by_cases h : c < 0
  · have e : pickI c n = (-(c + 1)) % n := by simp [pickI, h]
    have e2 : Hid (-((c + 1).tmod n) = (-(c + 1)) % n) := by unfold Hid; rw [← Int.neg_tmod]; exact Int.tmod_eq_emod_of_nonneg (by omega)
    rw [e]
    clear e
    go_enter Tryd.func15, Tryd.ntmps15
    go_wp2
    go_ret
    exact ⟨ret_i e2.out, rfl⟩
  · have e : pickI c n = c % n := by simp [pickI, h]
    rw [e]
    clear e
    go_enter Tryd.func15, Tryd.ntmps15
    go_wp2
    go_ret
    exact ⟨rfl, rfl⟩

/-- add. -/
def addI (n m : Int) : Int := if 2147483647 - n < m then 2147483648 else n + m
theorem add_any (n m : Int) (h1 : 0 ≤ n) (h2 : n ≤ 2147483648) (h3 : 0 ≤ m) (h4 : m ≤ 9223372036854775807) (w : World) :
    Calls Tryd.prog 18 #[.int .i64 n, .int .i64 m] w fun e w' => e = .returned (.int .i64 (addI n m)) ∧ w' = w := by
  by_cases h : 2147483647 - n < m
  · have e : addI n m = 2147483648 := by simp [addI, h]
    rw [e]
    clear e
    go_enter Tryd.func18, Tryd.ntmps18
    go_wp2
    go_ret
    exact ⟨rfl, rfl⟩
  · have e : addI n m = n + m := by simp [addI, h]
    rw [e]
    clear e
    go_enter Tryd.func18, Tryd.ntmps18
    go_wp2
    go_ret
    exact ⟨rfl, rfl⟩

theorem addI_bounds (n m : Int) (h1 : 0 ≤ n) (h3 : 0 ≤ m) : 0 ≤ addI n m ∧ addI n m ≤ 2147483648 ∧ (addI n m ≤ 2147483647 → addI n m = n + m) := by
  unfold addI
  split <;> omega

/-- How much the first k calls take: 100 each, and their texts. -/
def weight (f : Nat → OpD) : Nat → Nat
  | 0 => 0
  | k + 1 => weight f k + 100 + (f k).s.size
theorem weight_mono (f : Nat → OpD) (a b : Nat) (h : a ≤ b) : weight f a ≤ weight f b := by
  induction b with
  | zero => rw [Nat.le_zero.1 h]; exact Nat.le_refl _
  | succ b ih =>
    rcases Nat.lt_or_ge a (b + 1) with h' | h'
    · have := ih (by omega); simp only [weight]; omega
    · rw [show a = b + 1 by omega]; exact Nat.le_refl _
theorem weight_count (f : Nat → OpD) (k : Nat) : 100 * k ≤ weight f k := by
  induction k with
  | zero => exact Nat.zero_le _
  | succ k ih => simp only [weight]; omega

set_option maxRecDepth 100000 in
set_option maxHeartbeats 1000000 in
theorem size_some (b off len cap : Nat) (f : Nat → OpD) (w : World) (hl : len ≤ 140737488351232) (hok : ∀ i, i < len → OpOk (f i)) (hat : ∀ i, i < len → OpAt w b off i (f i)) :
    Calls Tryd.prog 12 #[.slice (some ⟨b, off, none⟩) len cap] w fun e w' => ∃ N : Int, e = .returned (.int .i64 N) ∧ (N ≤ 2147483647 → weight f len ≤ 2147483647) ∧ Below w.heap.size w w' := by
  go_enter Tryd.func12, Tryd.ntmps12
  go_wp2
  go_loopw [3, 4] (fun t i wr => ∃ (k : Nat) (N : Int), k ≤ len ∧ i = .int .i64 k ∧ t = .int .i64 N ∧ 0 ≤ N ∧ N ≤ 2147483648 ∧ Hid (N ≤ 2147483647 → N = weight f k) ∧ Below w.heap.size w wr) (fun _ i _ => len - (intOf i).toNat)
  case atStart => exact ⟨0, 0, Nat.zero_le _, rfl, rfl, by omega, by omega, fun _ => rfl, Below.refl _ _⟩
  case round =>
    obtain ⟨k, N, hk, rfl, rfl, hN0, hN1, hW, hq⟩ := hrel
    have HQ := hide hq
    clear hq
    by_cases hlt : k < len
    · have ho := (hok k hlt).s
      have hs : wr.cell? ⟨b, off + k * 5 + 4, none⟩ = some (.string (f k).s) := (HQ.out.cell (p := ⟨b, _, none⟩) (World.block_lt_of_cell? w _ (hat k hlt).s)).trans (hat k hlt).s
      by_cases hN : N ≤ 2147483647
      · obtain ⟨u1, u2, u3⟩ := addI_bounds N 100 hN0 (by decide)
        obtain ⟨v1, v2, v3⟩ := addI_bounds (addI N 100) (f k).s.size u1 (by omega)
        have HW : Hid (addI (addI N 100) (f k).s.size ≤ 2147483647 → addI (addI N 100) (f k).s.size = weight f (k + 1)) := by
          intro h
          have e1 := v3 h
          have e2 := u3 (by omega)
          have e3 := hW.out hN
          simp only [weight]
          omega
        clear u3 v3 hat
        go_wp2
        go_quiet ((go_at_call 18; exact Calls.quiet_of_same (add_any _ _ (by omega) (by omega) (by omega) (by omega) _)))
        go_wp2
        go_roundw
        case rel => exact ⟨k + 1, _, by omega, by go_num, rfl, v1, v2, HW.out, HQ.out.trans ⟨rfl, rfl, rfl, Nat.le_refl _, fun _ _ => rfl⟩⟩
        case measure => simp [intOf]; omega
      · go_wp2
        go_ret
        exact ⟨N, rfl, fun h => absurd h (by omega), HQ.out⟩
    · have h8 : k = len := by omega
      subst h8
      go_wp2
      go_ret
      exact ⟨N, rfl, fun h => by have := hW.out h; omega, HQ.out⟩
theorem size_none (ao : Option Addr) (cap : Nat) (w : World) :
    Calls Tryd.prog 12 #[.slice ao 0 cap] w fun e w' => e = .returned (.int .i64 0) ∧ w' = w := by
  go_enter Tryd.func12, Tryd.ntmps12
  go_wp2
  refine wp_loop_rounds 1 ?_
  rw [rounds_succ]
  go_wp2
  go_ret
  exact ⟨rfl, rfl⟩

/-- A script as an argument. -/
def Scr (w : World) (ao : Option Addr) (len : Nat) (f : Nat → OpD) : Prop :=
  len ≤ 140737488351232 ∧ (∀ i, i < len → OpOk (f i)) ∧ (len = 0 ∨ ∃ b off, ao = some ⟨b, off, none⟩ ∧ b < w.heap.size ∧ ∀ i, i < len → OpAt w b off i (f i))
theorem size_any (ao : Option Addr) (len cap : Nat) (f : Nat → OpD) (w : World) (h : Scr w ao len f) :
    Calls Tryd.prog 12 #[.slice ao len cap] w fun e w' => ∃ N : Int, e = .returned (.int .i64 N) ∧ (N ≤ 2147483647 → weight f len ≤ 2147483647) ∧ Below w.heap.size w w' := by
  obtain ⟨hl, hok, h0 | ⟨b, off, rfl, hb, hat⟩⟩ := h
  · subst h0
    refine (size_none ao cap w).mono ?_
    rintro e w' ⟨rfl, rfl⟩
    exact ⟨0, rfl, fun _ => by simp [weight], Below.refl _ _⟩
  · exact size_some b off len cap f w hl hok hat
theorem below_drewN (w : World) (q : Nat) : Below w.heap.size w (w.drewN q) := ⟨rfl, rfl, rfl, Nat.le_refl _, fun _ _ => rfl⟩
end Go.Proofs.YtonoobjpafhogaaDoor
