/-
  Lists of numbers as they lie in memory; pick, same, allSame, areSizes by their contracts. Condition: no list is longer than a process can hold.
-/
import Derived.Test.YtaafeflbanoncaaP04
import Derived.Test.YtaafeflbanoncaaP01
import Derived.Carry
import Derived.Deep.DeepCutAuto
import Derived.WalkSmall
namespace Go.Proofs.Ytaafeflbanoncaa
open Go.RowKit Go.Lib

theorem hide {p : Prop} (h : p) : Hid p := h
theorem bt {N : Nat} {a b c : World} (h : Below N a b) (k : Below b.heap.size b c) (hN : N ≤ a.heap.size) : Below N a c := h.trans (k.mono (Nat.le_trans hN h.size))
theorem al {w w' : World} (h : Below w.heap.size w w') (o : Obj) : Below w.heap.size w (w'.alloc o) := h.alloc h.size o
theorem addr_add (b off n : Nat) : (⟨b, off, none⟩ : Addr).add n = ⟨b, off + n, none⟩ := by unfold Addr.add; split <;> simp_all
/-- A number of the machine's kind. -/
def Fit (x : Int) : Prop := -9223372036854775808 ≤ x ∧ x ≤ 9223372036854775807
/-- Which of n things c speaks of. -/
def pkZ (c : Int) (n : Nat) : Nat := (if c < 0 then -(c + 1) else c).toNat % n
theorem pkZ_lt (c : Int) {n : Nat} (h : 0 < n) : pkZ c n < n := Nat.mod_lt _ h
set_option maxRecDepth 100000 in
theorem pick_any (c : Int) (n : Nat) (hc : Fit c) (hn : 0 < n) (hn2 : n ≤ 8589934592) (w : World) : Calls Try.prog 15 #[.int .i64 c, .int .i64 n] w fun e w' => e = .returned (.int .i64 (pkZ c n : Nat)) ∧ w' = w := by
  unfold Fit at hc
  have hn0 : ¬ (n : Int) = 0 := by omega
  by_cases h : c < 0
  · have e : ((pkZ c n : Nat) : Int) = (-(c + 1)).tmod n := by
      unfold pkZ
      rw [if_pos h, Int.natCast_emod, Int.toNat_of_nonneg (by omega), Int.tmod_eq_emod_of_nonneg (by omega)]
    rw [e]
    clear e
    have w1 : IntKind.i64.wrap (c + 1) = c + 1 := by simp [IntKind.wrap, IntKind.bits, IntKind.signed]; omega
    have w2 : IntKind.i64.wrap (-(c + 1)) = -(c + 1) := by simp [IntKind.wrap, IntKind.bits, IntKind.signed]; omega
    go_enter Try.func15, Try.ntmps15
    rw [Int.neg_tmod]
    go_wp2
    go_ret
    exact ⟨rfl, rfl⟩
  · have e : ((pkZ c n : Nat) : Int) = c % n := by
      unfold pkZ
      rw [if_neg h, Int.natCast_emod, Int.toNat_of_nonneg (by omega)]
    rw [e]
    clear e
    go_enter Try.func15, Try.ntmps15
    go_wp2
    go_ret
    exact ⟨rfl, rfl⟩
/-- Numbers in memory. -/
def ZAt (w : World) (ao : Option Addr) (L : List Int) : Prop := L = [] ∨ ∃ b off, ao = some ⟨b, off, none⟩ ∧ b < w.heap.size ∧ ∀ i, i < L.length → w.cell? ⟨b, off + i, none⟩ = some (.int .i64 (L.getD i 0))
theorem ZAt.below {w w' : World} {ao : Option Addr} {L : List Int} (h : ZAt w ao L) (hb : Below w.heap.size w w') : ZAt w' ao L := by
  rcases h with h | ⟨b, off, e, h1, h2⟩
  · exact .inl h
  · exact .inr ⟨b, off, e, Nat.lt_of_lt_of_le h1 hb.size, fun i hi => (hb.cell (p := ⟨b, off + i, none⟩) h1).trans (h2 i hi)⟩
theorem ZAt.get {w : World} {ao : Option Addr} {L : List Int} (h : ZAt w ao L) {i : Nat} (hi : i < L.length) : ∃ b off, ao = some ⟨b, off, none⟩ ∧ b < w.heap.size ∧ w.cell? ⟨b, off + i, none⟩ = some (.int .i64 (L.getD i 0)) := by
  rcases h with h | ⟨b, off, e, h1, h2⟩
  · rw [h] at hi; simp at hi
  · exact ⟨b, off, e, h1, h2 i hi⟩
theorem getD_mem {L : List Int} {i : Nat} (h : i < L.length) : L.getD i 0 ∈ L := by
  rw [List.getD_eq_getElem?_getD, List.getElem?_eq_getElem h]
  exact List.getElem_mem _
theorem all_of_getD {L : List Int} {p : Int → Prop} (h : ∀ i, i < L.length → p (L.getD i 0)) : ∀ f ∈ L, p f := fun f hf => by
  obtain ⟨i, hi, rfl⟩ := List.getElem_of_mem hf
  have := h i hi
  rw [List.getD_eq_getElem?_getD, List.getElem?_eq_getElem hi] at this
  exact this
theorem ext_getD {A B : List Int} (h : A.length = B.length) (e : ∀ i, i < A.length → A.getD i 0 = B.getD i 0) : A = B := by
  apply List.ext_getElem h
  intro i h1 h2
  have := e i h1
  rw [List.getD_eq_getElem?_getD, List.getD_eq_getElem?_getD, List.getElem?_eq_getElem h1, List.getElem?_eq_getElem h2] at this
  exact this
set_option maxRecDepth 100000 in
set_option maxHeartbeats 1000000 in
theorem same_any (a1 a2 : Option Addr) (c1 c2 : Nat) (A B : List Int) (w : World) (hl : A.length ≤ 140737488351232) (h1 : ZAt w a1 A) (h2 : ZAt w a2 B) :
    Calls Try.prog 28 #[.slice a1 A.length c1, .slice a2 B.length c2] w fun e w' => e = .returned (.bool (decide (A = B))) ∧ Below w.heap.size w w' := by
  have H1 := hide h1
  have H2 := hide h2
  clear h1 h2
  by_cases hne : A.length = B.length
  · have hne' : ((A.length : Int) != (B.length : Int)) = false := by rw [hne]; simp
    have HNE := hide hne
    clear hne
    go_enter Try.func28, Try.ntmps28
    go_wp2
    go_loopw [5] (fun x wr => ∃ k : Nat, k ≤ A.length ∧ x = .int .i64 k ∧ Hid (∀ i, i < k → A.getD i 0 = B.getD i 0) ∧ Hid (Below w.heap.size w wr)) (fun x _ => A.length - (RowKit.intOf x).toNat)
    case atStart => exact ⟨0, Nat.zero_le _, rfl, fun i h => by omega, Below.refl _ _⟩
    case round =>
      obtain ⟨k, hk, rfl, HE, HQ⟩ := hrel
      by_cases hlt : k < A.length
      · have hlt' : (k : Int) < A.length := by omega
        have hlb' : (k : Int) < B.length := by have := HNE.out; omega
        obtain ⟨b1, o1, rfl, hb1, g1⟩ := H1.out.get hlt
        obtain ⟨b2, o2, rfl, hb2, g2⟩ := H2.out.get (i := k) (by have := HNE.out; omega)
        have q1 := (HQ.out.cell (p := ⟨b1, o1 + k, none⟩) hb1).trans g1
        have q2 := (HQ.out.cell (p := ⟨b2, o2 + k, none⟩) hb2).trans g2
        clear g1 g2
        by_cases he : A.getD k 0 = B.getD k 0
        · have HE2 : Hid (∀ i, i < k + 1 → A.getD i 0 = B.getD i 0) := fun i hi => by
            rcases Nat.lt_or_ge i k with h | h
            · exact HE.out i h
            · obtain rfl : i = k := by omega
              exact he
          have he' : (A.getD k 0 != B.getD k 0) = false := by rw [he]; simp
          clear he HE
          generalize A.getD k 0 = x at *
          generalize B.getD k 0 = y at *
          go_wp2
          go_quiet (fail)
          go_wp2
          go_roundw
          case rel => exact ⟨k + 1, by omega, by go_num, HE2, below_drewN HQ.out _⟩
          case measure => simp [RowKit.intOf]; omega
        · have he' : (A.getD k 0 != B.getD k 0) = true := by simpa using he
          have HD : Hid (decide (A = B) = false) := decide_eq_false (fun e => he (by rw [e]))
          clear he HE
          generalize A.getD k 0 = x at *
          generalize B.getD k 0 = y at *
          go_wp2
          go_quiet (fail)
          go_wp2
          go_ret
          exact ⟨by rw [HD.out]; rfl, below_drewN HQ.out _⟩
      · have hlt' : ¬ (k : Int) < A.length := by omega
        have HD : Hid (decide (A = B) = true) := decide_eq_true (ext_getD HNE.out (fun i hi => HE.out i (by omega)))
        go_wp2
        go_ret
        exact ⟨by rw [HD.out]; rfl, HQ.out⟩
  · have hne' : ((A.length : Int) != (B.length : Int)) = true := by simp; omega
    have HD : Hid (decide (A = B) = false) := decide_eq_false (fun e => hne (by rw [e]))
    clear hne
    go_enter Try.func28, Try.ntmps28
    go_wp2
    go_ret
    exact ⟨by rw [HD.out]; rfl, Below.refl _ _⟩
set_option maxRecDepth 100000 in
set_option maxHeartbeats 1000000 in
theorem sameD_any (a1 a2 : Option Addr) (c1 c2 : Nat) (A B : List Int) (w : World) (hne : A.length = B.length) (hl : A.length ≤ 140737488351232) (h1 : ZAt w a1 A) (h2 : ZAt w a2 B) :
    Calls Try.prog 54 #[.slice a1 A.length c1, .slice a2 B.length c2] w fun e w' => e = .returned (.bool (decide (A = B))) ∧ Below w.heap.size w w' := by
  have H1 := hide h1
  have H2 := hide h2
  clear h1 h2
  have hne' : ((A.length : Int) == (B.length : Int)) = true := by rw [hne]; simp
  have HNE := hide hne
  clear hne
  go_enter Try.func54, Try.ntmps54
  go_wp2
  go_loopw [5] (fun x wr => ∃ k : Nat, k ≤ A.length ∧ x = .int .i64 k ∧ Hid (∀ i, i < k → A.getD i 0 = B.getD i 0) ∧ Hid (Below w.heap.size w wr)) (fun x _ => A.length - (RowKit.intOf x).toNat)
  case atStart => exact ⟨0, Nat.zero_le _, rfl, fun i h => by omega, Below.refl _ _⟩
  case round =>
    obtain ⟨k, hk, rfl, HE, HQ⟩ := hrel
    by_cases hlt : k < A.length
    · have hlt' : (k : Int) < A.length := by omega
      have hlb' : (k : Int) < B.length := by have := HNE.out; omega
      obtain ⟨b1, o1, rfl, hb1, g1⟩ := H1.out.get hlt
      obtain ⟨b2, o2, rfl, hb2, g2⟩ := H2.out.get (i := k) (by have := HNE.out; omega)
      have q1 := (HQ.out.cell (p := ⟨b1, o1 + k, none⟩) hb1).trans g1
      have q2 := (HQ.out.cell (p := ⟨b2, o2 + k, none⟩) hb2).trans g2
      clear g1 g2
      by_cases he : A.getD k 0 = B.getD k 0
      · have HE2 : Hid (∀ i, i < k + 1 → A.getD i 0 = B.getD i 0) := fun i hi => by
          rcases Nat.lt_or_ge i k with h | h
          · exact HE.out i h
          · obtain rfl : i = k := by omega
            exact he
        have he' : (A.getD k 0 != B.getD k 0) = false := by rw [he]; simp
        clear he HE
        generalize A.getD k 0 = x at *
        generalize B.getD k 0 = y at *
        go_wp2
        go_quiet (fail)
        go_wp2
        go_roundw
        case rel => exact ⟨k + 1, by omega, by go_num, HE2, below_drewN HQ.out _⟩
        case measure => simp [RowKit.intOf]; omega
      · have he' : (A.getD k 0 != B.getD k 0) = true := by simpa using he
        have HD : Hid (decide (A = B) = false) := decide_eq_false (fun e => he (by rw [e]))
        clear he HE
        generalize A.getD k 0 = x at *
        generalize B.getD k 0 = y at *
        go_wp2
        go_quiet (fail)
        go_wp2
        go_ret
        exact ⟨by rw [HD.out]; rfl, below_drewN HQ.out _⟩
    · have hlt' : ¬ (k : Int) < A.length := by omega
      have HD : Hid (decide (A = B) = true) := decide_eq_true (ext_getD HNE.out (fun i hi => HE.out i (by omega)))
      go_wp2
      go_ret
      exact ⟨by rw [HD.out]; rfl, HQ.out⟩
instance (ks : List Int) : Decidable (One ks) := inferInstanceAs (Decidable (∀ f ∈ ks, f = ks.getD 0 0))
set_option maxRecDepth 100000 in
set_option maxHeartbeats 1000000 in
theorem allSame_any (a1 : Option Addr) (c1 : Nat) (A : List Int) (w : World) (hl : A.length ≤ 140737488351232) (h1 : ZAt w a1 A) :
    Calls Try.prog 77 #[.slice a1 A.length c1] w fun e w' => e = .returned (.bool (decide (One A))) ∧ Below w.heap.size w w' := by
  have H1 := hide h1
  clear h1
  go_enter Try.func77, Try.ntmps77
  go_wp2
  go_loopw [7] (fun x wr => ∃ k : Nat, k ≤ A.length ∧ x = .int .i64 k ∧ Hid (∀ i, i < k → A.getD i 0 = A.getD 0 0) ∧ Hid (Below w.heap.size w wr)) (fun x _ => A.length - (RowKit.intOf x).toNat)
  case atStart => exact ⟨0, Nat.zero_le _, rfl, fun i h => by omega, Below.refl _ _⟩
  case round =>
    obtain ⟨k, hk, rfl, HE, HQ⟩ := hrel
    by_cases hlt : k < A.length
    · have hlt' : (k : Int) < A.length := by omega
      have hl0 : (0 : Int) < A.length := by omega
      obtain ⟨b1, o1, rfl, hb1, g1⟩ := H1.out.get hlt
      obtain ⟨b2, o2, e2, hb2, g2⟩ := H1.out.get (i := 0) (by omega)
      injection e2 with e2; injection e2 with e2 e3; subst e2 e3
      have q1 := (HQ.out.cell (p := ⟨b1, o1 + k, none⟩) hb1).trans g1
      have q2 := (HQ.out.cell (p := ⟨b1, o1 + 0, none⟩) hb1).trans g2
      rw [Nat.add_zero] at q2
      clear g1 g2
      by_cases he : A.getD k 0 = A.getD 0 0
      · have HE2 : Hid (∀ i, i < k + 1 → A.getD i 0 = A.getD 0 0) := fun i hi => by
          rcases Nat.lt_or_ge i k with h | h
          · exact HE.out i h
          · obtain rfl : i = k := by omega
            exact he
        have he' : (A.getD k 0 != A.getD 0 0) = false := by rw [he]; simp
        clear he HE
        generalize A.getD k 0 = x at *
        generalize A.getD 0 0 = y at *
        go_wp2
        go_roundw
        case rel => exact ⟨k + 1, by omega, by go_num, HE2, HQ⟩
        case measure => simp [RowKit.intOf]; omega
      · have he' : (A.getD k 0 != A.getD 0 0) = true := by simpa using he
        have HD : Hid (decide (One A) = false) := decide_eq_false (fun e => he (e _ (getD_mem hlt)))
        clear he HE
        generalize A.getD k 0 = x at *
        generalize A.getD 0 0 = y at *
        go_wp2
        go_ret
        exact ⟨by rw [HD.out]; rfl, HQ.out⟩
    · have hlt' : ¬ (k : Int) < A.length := by omega
      have HD : Hid (decide (One A) = true) := decide_eq_true (all_of_getD (fun i hi => HE.out i (by omega)))
      go_wp2
      go_ret
      exact ⟨by rw [HD.out]; rfl, HQ.out⟩
def SzB (A : List Int) : Bool := decide (1 ≤ A.length) && decide (A.length ≤ 12) && decide (∀ s ∈ A, 1 ≤ s ∧ s ≤ 256)
theorem SzB_iff (A : List Int) : SzB A = true ↔ SzOk A := by
  unfold SzB
  simp only [Bool.and_eq_true, decide_eq_true_eq]
  exact ⟨fun h => ⟨h.1.1, h.1.2, h.2⟩, fun h => ⟨⟨h.ge, h.le⟩, h.each⟩⟩
theorem SzB_false {A : List Int} (h : ¬ SzOk A) : SzB A = false := by
  cases e : SzB A
  · rfl
  · exact absurd ((SzB_iff A).1 e) h
set_option maxRecDepth 100000 in
set_option maxHeartbeats 1000000 in
theorem areSizes_any (a1 : Option Addr) (c1 : Nat) (A : List Int) (w : World) (hl : A.length ≤ 140737488351232) (h1 : ZAt w a1 A) :
    Calls Try.prog 29 #[.slice a1 A.length c1] w fun e w' => e = .returned (.bool (SzB A)) ∧ Below w.heap.size w w' := by
  have H1 := hide h1
  clear h1
  by_cases h0 : A.length < 1
  · have h0' : (A.length : Int) < 1 := by omega
    have HD : Hid (SzB A = false) := SzB_false (fun h => by have := h.ge; omega)
    go_enter Try.func29, Try.ntmps29
    go_wp2
    go_ret
    exact ⟨by rw [HD.out]; rfl, Below.refl _ _⟩
  by_cases h12 : 12 < A.length
  · have h0' : ¬ (A.length : Int) < 1 := by omega
    have h12' : (12 : Int) < (A.length : Int) := by omega
    have HD : Hid (SzB A = false) := SzB_false (fun h => by have := h.le; omega)
    go_enter Try.func29, Try.ntmps29
    go_wp2
    go_ret
    exact ⟨by rw [HD.out]; rfl, Below.refl _ _⟩
  have h0' : ¬ (A.length : Int) < 1 := by omega
  have h12' : ¬ (12 : Int) < (A.length : Int) := by omega
  go_enter Try.func29, Try.ntmps29
  go_wp2
  go_loopw [15] (fun x wr => ∃ k : Nat, k ≤ A.length ∧ x = .int .i64 k ∧ Hid (∀ i, i < k → 1 ≤ A.getD i 0 ∧ A.getD i 0 ≤ 256) ∧ Hid (Below w.heap.size w wr)) (fun x _ => A.length - (RowKit.intOf x).toNat)
  case atStart => exact ⟨0, Nat.zero_le _, rfl, fun i h => by omega, Below.refl _ _⟩
  case round =>
    obtain ⟨k, hk, rfl, HE, HQ⟩ := hrel
    by_cases hlt : k < A.length
    · have hlt' : (k : Int) < A.length := by omega
      obtain ⟨b1, o1, rfl, hb1, g1⟩ := H1.out.get hlt
      have q1 := (HQ.out.cell (p := ⟨b1, o1 + k, none⟩) hb1).trans g1
      clear g1
      by_cases he : 1 ≤ A.getD k 0 ∧ A.getD k 0 ≤ 256
      · have HE2 : Hid (∀ i, i < k + 1 → 1 ≤ A.getD i 0 ∧ A.getD i 0 ≤ 256) := fun i hi => by
          rcases Nat.lt_or_ge i k with h | h
          · exact HE.out i h
          · obtain rfl : i = k := by omega
            exact he
        clear HE
        generalize A.getD k 0 = x at *
        have e1 : ¬ x < 1 := by omega
        have e2 : ¬ 256 < x := by omega
        clear he
        go_wp2
        go_roundw
        case rel => exact ⟨k + 1, by omega, by go_num, HE2, HQ⟩
        case measure => simp [RowKit.intOf]; omega
      · have HD : Hid (SzB A = false) := SzB_false (fun h => he (h.each _ (getD_mem hlt)))
        clear HE
        generalize A.getD k 0 = x at *
        by_cases e1 : x < 1
        · clear he
          go_wp2
          go_ret
          exact ⟨by rw [HD.out]; rfl, HQ.out⟩
        · have e2 : 256 < x := by omega
          clear he
          go_wp2
          go_ret
          exact ⟨by rw [HD.out]; rfl, HQ.out⟩
    · have hlt' : ¬ (k : Int) < A.length := by omega
      have HD : Hid (SzB A = true) := (SzB_iff A).2 ⟨by omega, by omega, all_of_getD (fun i hi => HE.out i (by omega))⟩
      go_wp2
      go_ret
      exact ⟨by rw [HD.out]; rfl, HQ.out⟩
end Go.Proofs.Ytaafeflbanoncaa
