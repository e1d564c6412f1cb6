/-
  Whether some number of a list passes a test; the greatest byte. Condition: lists no longer than a process can hold.
-/
import Derived.Test.YtdgoilkgplnhfaaGreatB17
namespace Go.Proofs.YtdgoilkgplnhfaaGreat
open Go.RowKit Go.Lib

/-- Raw numbers as they lie in memory. -/
def ZAt (w : World) (ao : Option Addr) (L : List Int) : Prop := L = [] ∨ ∃ b off, ao = some ⟨b, off, none⟩ ∧ b < w.heap.size ∧ ∀ i (h : i < L.length), w.cell? ⟨b, off + i, none⟩ = some (.int .i64 L[i])
theorem ZAt.below {w w' : World} {ao : Option Addr} {L : List Int} (h : ZAt w ao L) (hb : Below w.heap.size w w') : ZAt w' ao L := by
  rcases h with h | ⟨b, off, h1, h2, h3⟩
  · exact .inl h
  · exact .inr ⟨b, off, h1, Nat.lt_of_lt_of_le h2 hb.size, fun i hi => (hb.cell (p := ⟨b, off + i, none⟩) h2).trans (h3 i hi)⟩
theorem ZAt.get {w : World} {ao : Option Addr} {L : List Int} (h : ZAt w ao L) {i : Nat} (hi : i < L.length) : ∃ b off, ao = some ⟨b, off, none⟩ ∧ w.cell? ⟨b, off + i, none⟩ = some (.int .i64 L[i]) := by
  rcases h with h | ⟨b, off, h1, h2, h3⟩
  · rw [h] at hi; cases hi
  · exact ⟨b, off, h1, h3 i hi⟩
set_option maxRecDepth 100000 in
set_option maxHeartbeats 2000000 in
theorem indexZ_any (fv : Value) (cl : Nat) (caps : List Value) (hfv : fv = .func (.func cl) #[] caps.toArray) (he : ∀ args w, (callFunc cl args).run Tryz.prog w = .ok (.enter cl args) w) (p : Int → Bool) (ao : Option Addr) (cap : Nat) (L : List Int) (w : World) (hl : L.length ≤ 140737488351232) (hat : ZAt w ao L) (hc : ∀ z ∈ L, ∀ W, Below w.heap.size w W → Calls Tryz.prog cl (.int .i64 z :: caps).toArray W fun e w' => e = .returned (.bool (p z)) ∧ Below W.heap.size W w') :
    Calls Tryz.prog 110 #[.slice ao L.length cap, fv] w fun e w' => (∃ i : Int, e = .returned (.int .i64 i) ∧ (0 ≤ i ↔ ∃ x, x ∈ L ∧ p x = true) ∧ -1 ≤ i) ∧ Below w.heap.size w w' := by
  subst hfv
  have HAT := hide hat
  have HC := hide hc
  clear hat hc
  go_enter Tryz.func110, Tryz.ntmps110
  go_wp2
  go_loopg [8] (L.length + 1) (fun g x wr => ∃ k : Nat, x = .int .i64 (k : Nat) ∧ k ≤ L.length ∧ Hid ((L.take k).any p = false) ∧ Hid (Below w.heap.size w wr) ∧ L.length - k < g)
  case atStart => exact ⟨0, rfl, by omega, by simp [Hid], hide (Below.refl _ _), by omega⟩
  case round =>
    obtain ⟨k, rfl, hk1, HA, XB, hg⟩ := hrel
    have HG := hide hg
    clear hg
    by_cases hk : k < L.length
    · have hk' : (k : Int) < (L.length : Int) := by omega
      obtain ⟨b, off, rfl, c0⟩ := (HAT.out.below XB.out).get hk
      obtain ⟨z, hz⟩ : ∃ z, L[k] = z := ⟨_, rfl⟩
      have H1 := hide (HC.out L[k] (List.getElem_mem hk) wr XB.out)
      have HZ : Hid ((L.take (k + 1)).any p = p z) := by unfold Hid; rw [List.take_succ_eq_append_getElem hk, List.any_append, HA.out, hz]; simp
      have HZ2 : Hid (z ∈ L) := by unfold Hid; rw [← hz]; exact List.getElem_mem hk
      rw [hz] at c0 H1
      clear hz
      go_wp2_with (fail)
      refine H1.out.mono ?_
      rintro e w3 ⟨rfl, x3⟩
      have X3 := hide (bt XB.out x3 (Nat.le_refl _))
      clear H1 x3 c0
      cases hp : p z with
      | true =>
        have HP := hide hp
        go_wp2
        go_ret
        exact ⟨⟨_, rfl, ⟨fun _ => ⟨z, HZ2.out, HP.out⟩, fun _ => by omega⟩, by omega⟩, X3.out⟩
      | false =>
        have HZ3 : Hid ((L.take (k + 1)).any p = false) := HZ.out.trans hp
        go_wp2
        go_roundg (L.length - (k + 1) + 1)
        case measure => have := HG.out; omega
        case rel => exact ⟨k + 1, by first | rfl | go_num | (congr 1; omega), by omega, HZ3, X3, by omega⟩
    · have hk' : ¬ (k : Int) < (L.length : Int) := by omega
      obtain rfl : k = L.length := by omega
      have HE : Hid (L.any p = false) := by have := HA.out; rwa [List.take_length] at this
      go_wp2
      go_ret
      exact ⟨⟨-1, rfl, ⟨fun h => by omega, fun h => by obtain ⟨x, h1, h2⟩ := h; have h3 := List.any_eq_true.2 ⟨x, h1, h2⟩; rw [HE.out] at h3; cases h3⟩, by omega⟩, XB.out⟩
set_option maxRecDepth 100000 in
theorem containsZ_any (fv : Value) (cl : Nat) (caps : List Value) (hfv : fv = .func (.func cl) #[] caps.toArray) (he : ∀ args w, (callFunc cl args).run Tryz.prog w = .ok (.enter cl args) w) (p : Int → Bool) (ao : Option Addr) (cap : Nat) (L : List Int) (w : World) (hl : L.length ≤ 140737488351232) (hat : ZAt w ao L) (hc : ∀ z ∈ L, ∀ W, Below w.heap.size w W → Calls Tryz.prog cl (.int .i64 z :: caps).toArray W fun e w' => e = .returned (.bool (p z)) ∧ Below W.heap.size W w') :
    Calls Tryz.prog 76 #[.slice ao L.length cap, fv] w fun e w' => e = .returned (.bool (L.any p)) ∧ Below w.heap.size w w' := by
  have H1 := hide (indexZ_any fv cl caps hfv he p ao cap L w hl hat hc)
  clear hc hat hfv he
  go_enter Tryz.func76, Tryz.ntmps76
  go_wp2_with (fail)
  refine H1.out.mono ?_
  rintro e w2 ⟨⟨i, rfl, hi, _⟩, x2⟩
  have X2 := hide x2
  clear H1 x2
  by_cases h0 : 0 ≤ i
  · have HE : Hid (L.any p = true) := List.any_eq_true.2 (hi.1 h0)
    clear hi
    go_wp2
    go_ret
    exact ⟨by rw [HE.out]; first | rfl | simp_all, X2.out⟩
  · have HE : Hid (L.any p = false) := by
      unfold Hid
      cases hx : L.any p with
      | false => rfl
      | true => exact absurd (hi.2 (List.any_eq_true.1 hx)) h0
    clear hi
    go_wp2
    go_ret
    exact ⟨by rw [HE.out]; first | rfl | simp_all, X2.out⟩
def noneB (n : Nat) (z : Int) : Bool := decide (z < 0 ∨ (n : Int) ≤ z)
set_option maxRecDepth 100000 in
theorem mayBe1_any (oa : Option Addr) (n oc xb : Nat) (z : Int) (w : World) (hc : w.cell? ⟨xb, 2, none⟩ = some (.slice oa n oc)) :
    Calls Tryz.prog 74 #[.int .i64 z, .pointer (some ⟨xb, 0, none⟩)] w fun e w' => e = .returned (.bool (noneB n z)) ∧ Below w.heap.size w w' := by
  by_cases h1 : z < 0
  · have HE : Hid (noneB n z = true) := decide_eq_true (.inl h1)
    go_enter Tryz.func74, Tryz.ntmps74
    go_wp2
    go_ret
    exact ⟨by rw [HE.out]; first | rfl | simp_all, Below.refl _ _⟩
  · by_cases h2 : (n : Int) ≤ z
    · have HE : Hid (noneB n z = true) := decide_eq_true (.inr h2)
      go_enter Tryz.func74, Tryz.ntmps74
      go_wp2
      go_ret
      exact ⟨by rw [HE.out]; first | rfl | simp_all, Below.refl _ _⟩
    · have HE : Hid (noneB n z = false) := decide_eq_false (fun h => by omega)
      go_enter Tryz.func74, Tryz.ntmps74
      go_wp2
      go_ret
      exact ⟨by rw [HE.out]; first | rfl | simp_all, Below.refl _ _⟩
def nlB (z : Int) : Bool := !decide (Lab z)
set_option maxRecDepth 100000 in
theorem mayBe2_any (z : Int) (w : World) : Calls Tryz.prog 75 #[.int .i64 z] w fun e w' => e = .returned (.bool (nlB z)) ∧ Below w.heap.size w w' := by
  have H1 := hide (isLabel_any z w)
  have HE : Hid (nlB z = !decide (Lab z)) := rfl
  generalize decide (Lab z) = b at *
  generalize nlB z = c at *
  go_enter Tryz.func75, Tryz.ntmps75
  go_wp2_with (fail)
  refine H1.out.mono ?_
  rintro e w2 ⟨rfl, hw⟩
  have hw := hw.symm
  subst hw
  go_wp2
  go_ret
  exact ⟨by rw [HE.out]; rfl, Below.refl _ _⟩
/-- The greatest of some bytes. -/
def mxL (L : List Nat) : Nat := L.foldl max 0
theorem mxL_snoc (L : List Nat) (x : Nat) : mxL (L ++ [x]) = max (mxL L) x := by simp [mxL, List.foldl_append]
set_option maxRecDepth 100000 in
set_option maxHeartbeats 2000000 in
theorem max_any (xb cap : Nat) (L : List Nat) (w : World) (h0 : 0 < L.length) (hl : L.length ≤ 140737488351232) (hc : ∀ i (h : i < L.length), w.cell? ⟨xb, i, none⟩ = some (.int .u8 (L[i] : Int))) :
    Calls Tryz.prog 73 #[.slice (some ⟨xb, 0, none⟩) L.length cap] w fun e w' => e = .returned (.int .u8 ((mxL L : Nat) : Int)) ∧ w' = w := by
  have c0 := hc 0 h0
  have HC := hide hc
  have h0' : (0 : Int) < (L.length : Int) := by omega
  have h1' : ¬ (L.length : Int) < 1 := by omega
  have HM0 : Hid (mxL (L.take 1) = L[0]) := by
    unfold Hid
    rw [List.take_succ_eq_append_getElem h0, List.take_zero, List.nil_append]
    simp [mxL]
  clear hc
  go_enter Tryz.func73, Tryz.ntmps73
  go_wp2
  go_loopg [3, 4] (L.length + 1) (fun g m x wr => ∃ k : Nat, x = .int .i64 (k : Nat) ∧ k ≤ L.length ∧ m = .int .u8 ((mxL (L.take k) : Nat) : Int) ∧ wr = w ∧ L.length - k < g)
  case atStart => exact ⟨1, rfl, by omega, by rw [HM0.out], rfl, by omega⟩
  case round =>
    obtain ⟨k, rfl, hk1, rfl, rfl, hg⟩ := hrel
    have HG := hide hg
    clear hg c0
    by_cases hk : k < L.length
    · have hk' : (k : Int) < (L.length : Int) := by omega
      have c1 := HC.out k hk
      have HM : Hid (mxL (L.take (k + 1)) = max (mxL (L.take k)) L[k]) := by unfold Hid; rw [List.take_succ_eq_append_getElem hk, mxL_snoc]
      generalize L[k] = y at *
      generalize mxL (L.take k) = m at *
      go_wp2
      all_goals
        go_roundg (L.length - (k + 1) + 1)
        case measure => have := HG.out; omega
        case rel => exact ⟨k + 1, by first | rfl | go_num | (congr 1; omega), by omega, by rw [HM.out]; first | rfl | (congr 1; omega), by first | rfl | trivial, by omega⟩
    · have hk' : ¬ (k : Int) < (L.length : Int) := by omega
      obtain rfl : k = L.length := by omega
      have HE : Hid (mxL (L.take L.length) = mxL L) := by unfold Hid; rw [List.take_length]
      rw [HE.out]
      go_wp2
      go_ret
      exact ⟨rfl, rfl⟩
end Go.Proofs.YtdgoilkgplnhfaaGreat
