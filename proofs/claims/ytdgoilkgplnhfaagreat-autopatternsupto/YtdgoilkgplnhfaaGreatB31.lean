/-
  What marks say: a text can be cut so that each piece takes its part. No condition.
-/
import Derived.Test.YtdgoilkgplnhfaaGreatB30
import Derived.Test.YtdgoilkgplnhfaaGreatB09
namespace Go.Proofs.YtdgoilkgplnhfaaGreat

section
variable (L : List Pc)
def mM (i : Nat) : Bool := manyK (L.getD i zPc).kind
def mT (i : Nat) (c : UInt8) : Bool := tkB (L.getD i zPc) ((c.toNat : Nat) : Int)
/-- Do the first i pieces take a text (its last byte first)? -/
def rm : Nat → By → Bool
  | 0, [] => true
  | 0, _ :: _ => false
  | i + 1, [] => mM L i && rm i []
  | i + 1, c :: v => if mM L i then rm i (c :: v) || (mT L i c && rm (i + 1) v) else mT L i c && rm i v
termination_by i v => (v.length, i)
theorem mM_out {i : Nat} (h : L.length ≤ i) : mM L i = false := by
  unfold mM
  rw [List.getD_eq_getElem?_getD, List.getElem?_eq_none h]
  rfl
theorem upd_self (f : Nat → Bool) (i : Nat) : upd f i i = true := by simp [upd]
theorem upd_ne {f : Nat → Bool} {i j : Nat} (h : ¬ j = i) : upd f i j = f j := by simp [upd, h]
theorem clF_succ (f : Nat → Bool) (k : Nat) : clF L f (k + 1) = if clF L f k k && mM L k then upd (clF L f k) (k + 1) else clF L f k := rfl
theorem clF_ne (f : Nat → Bool) (k : Nat) {j : Nat} (h : ¬ j = k + 1) : clF L f (k + 1) j = clF L f k j := by
  rw [clF_succ]
  split
  · exact upd_ne h
  · rfl
theorem clF_early (f : Nat → Bool) : ∀ (k : Nat) {j : Nat}, k < j → clF L f k j = f j
  | 0, _, _ => rfl
  | k + 1, j, h => by rw [clF_ne L f k (by omega), clF_early f k (by omega)]
theorem clF_late (f : Nat → Bool) (j : Nat) : ∀ (d : Nat), clF L f (j + d) j = clF L f j j
  | 0 => rfl
  | d + 1 => by rw [← Nat.add_assoc, clF_ne L f (j + d) (by omega), clF_late f j d]
theorem cl_zero (f : Nat → Bool) (n : Nat) : clF L f n 0 = f 0 := by
  have := clF_late L f 0 n
  rwa [Nat.zero_add] at this
theorem cl_succ (f : Nat → Bool) {n i : Nat} (h : i < n) : clF L f n (i + 1) = (f (i + 1) || (mM L i && clF L f n i)) := by
  have h1 := clF_late L f (i + 1) (n - (i + 1))
  rw [show i + 1 + (n - (i + 1)) = n by omega] at h1
  have h2 := clF_late L f i (n - i)
  rw [show i + (n - i) = n by omega] at h2
  rw [h1, h2, clF_succ]
  split
  · rename_i hh
    rw [upd_self]
    simp only [Bool.and_eq_true] at hh
    simp [hh.1, hh.2]
  · rename_i hh
    rw [clF_early L f i (by omega)]
    cases hc : clF L f i i <;> cases hm : mM L i <;> simp_all
theorem afF_succ (f : Nat → Bool) (c : UInt8) (k : Nat) : afF L f ((c.toNat : Nat) : Int) (k + 1) = if f k && mT L k c then (if mM L k then upd (afF L f ((c.toNat : Nat) : Int) k) k else upd (afF L f ((c.toNat : Nat) : Int) k) (k + 1)) else afF L f ((c.toNat : Nat) : Int) k := rfl
/-- What one byte leads to. -/
theorem af_is (f : Nat → Bool) (c : UInt8) : ∀ (k i : Nat), afF L f ((c.toNat : Nat) : Int) k i = ((decide (i < k) && (f i && mT L i c && mM L i)) || (decide (0 < i ∧ i - 1 < k) && (f (i - 1) && mT L (i - 1) c && !mM L (i - 1))))
  | 0, i => by simp [afF]
  | k + 1, i => by
    have ih := af_is f c k
    rw [afF_succ]
    by_cases hh : (f k && mT L k c) = true
    · rw [if_pos hh]
      by_cases hm : mM L k = true
      · rw [if_pos hm]
        by_cases hi : i = k
        · subst hi
          rw [upd_self]
          simp [hh, hm]
        · rw [upd_ne hi, ih i]
          have e1 : decide (i < k + 1) = decide (i < k) := by congr 1; simp; omega
          rw [e1]
          by_cases hp : 0 < i ∧ i - 1 = k
          · rw [hp.2, hm]; simp
          · have e2 : decide (0 < i ∧ i - 1 < k + 1) = decide (0 < i ∧ i - 1 < k) := by congr 1; simp; omega
            rw [e2]
      · rw [if_neg hm]
        simp only [Bool.not_eq_true] at hm
        by_cases hi : i = k + 1
        · subst hi
          rw [upd_self]
          simp [hh, hm]
        · rw [upd_ne hi, ih i]
          have e2 : decide (0 < i ∧ i - 1 < k + 1) = decide (0 < i ∧ i - 1 < k) := by congr 1; simp; omega
          rw [e2]
          by_cases hp : i = k
          · subst hp; rw [hm]; simp
          · have e1 : decide (i < k + 1) = decide (i < k) := by congr 1; simp; omega
            rw [e1]
    · rw [if_neg hh, ih i]
      simp only [Bool.not_eq_true] at hh
      by_cases h1 : i = k
      · subst h1
        rw [hh]
        by_cases hp : 0 < i
        · have e2 : decide (0 < i ∧ i - 1 < i + 1) = decide (0 < i ∧ i - 1 < i) := by congr 1; simp; omega
          rw [e2]; simp
        · have : i = 0 := by omega
          subst this; simp
      · have e1 : decide (i < k + 1) = decide (i < k) := by congr 1; simp; omega
        rw [e1]
        by_cases hp : 0 < i ∧ i - 1 = k
        · rw [hp.2, hh]; simp
        · have e2 : decide (0 < i ∧ i - 1 < k + 1) = decide (0 < i ∧ i - 1 < k) := by congr 1; simp; omega
          rw [e2]
/-- Marks behind a text (its last byte first). -/
def mF : By → (Nat → Bool)
  | [] => clF L (upd (fun _ => false) 0) L.length
  | c :: v => stF L (mF v) c
theorem mtF_rev (s : By) : mtF L s = mF L s.reverse := by
  suffices h : ∀ v : By, mtF L v.reverse = mF L v by
    have := h s.reverse
    rwa [List.reverse_reverse] at this
  intro v
  induction v with
  | nil => rfl
  | cons c v ih => rw [List.reverse_cons, mtF_snoc, ih]; rfl
theorem rm_00 : rm L 0 [] = true := by unfold rm; rfl
theorem rm_0c (c : UInt8) (v : By) : rm L 0 (c :: v) = false := by unfold rm; rfl
theorem rm_s0 (i : Nat) : rm L (i + 1) [] = (mM L i && rm L i []) := by conv => lhs; unfold rm
theorem rm_sc (i : Nat) (c : UInt8) (v : By) : rm L (i + 1) (c :: v) = if mM L i then rm L i (c :: v) || (mT L i c && rm L (i + 1) v) else mT L i c && rm L i v := by conv => lhs; unfold rm
theorem mF_is : ∀ (v : By) (i : Nat), i ≤ L.length → mF L v i = if mM L i then rm L (i + 1) v else rm L i v
  | [], i, hi => by
    induction i with
    | zero =>
      show clF L (upd (fun _ => false) 0) L.length 0 = _
      rw [cl_zero, upd_self, rm_s0, rm_00]
      cases mM L 0 <;> rfl
    | succ i ih =>
      have ih := ih (by omega)
      have e : mF L [] (i + 1) = (mM L i && mF L [] i) := by
        show clF L (upd (fun _ => false) 0) L.length (i + 1) = (mM L i && clF L (upd (fun _ => false) 0) L.length i)
        rw [cl_succ L _ (by omega), upd_ne (by omega), Bool.false_or]
      rw [e, ih, rm_s0 L (i + 1)]
      cases h1 : mM L (i + 1) <;> cases h2 : mM L i <;> simp [rm_s0, h2]
  | c :: v, i, hi => by
    have ihv := mF_is v
    have haf : ∀ j, j ≤ L.length → afF L (mF L v) ((c.toNat : Nat) : Int) L.length j = ((mF L v j && mT L j c && mM L j) || (decide (0 < j) && (mF L v (j - 1) && mT L (j - 1) c && !mM L (j - 1)))) := fun j hj => by
      rw [af_is]
      by_cases h1 : j < L.length
      · have e1 : decide (j < L.length) = true := decide_eq_true h1
        have e2 : decide (0 < j ∧ j - 1 < L.length) = decide (0 < j) := by congr 1; simp; omega
        rw [e1, e2, Bool.true_and]
      · have e1 : decide (j < L.length) = false := decide_eq_false h1
        have e2 : decide (0 < j ∧ j - 1 < L.length) = decide (0 < j) := by congr 1; simp; omega
        rw [e1, e2, mM_out L (by omega : L.length ≤ j)]
        simp
    induction i with
    | zero =>
      show clF L (afF L (mF L v) ((c.toNat : Nat) : Int) L.length) L.length 0 = _
      rw [cl_zero, haf 0 hi, ihv 0 hi, rm_sc, rm_0c]
      cases h : mM L 0 <;> simp [Bool.and_comm]
    | succ i ih =>
      have ih := ih (by omega)
      have e : mF L (c :: v) (i + 1) = (afF L (mF L v) ((c.toNat : Nat) : Int) L.length (i + 1) || (mM L i && mF L (c :: v) i)) := by
        show clF L (afF L (mF L v) ((c.toNat : Nat) : Int) L.length) L.length (i + 1) = (_ || (mM L i && clF L (afF L (mF L v) ((c.toNat : Nat) : Int) L.length) L.length i))
        rw [cl_succ L _ (by omega)]
      rw [e, ih, haf (i + 1) hi, ihv (i + 1) hi, Nat.add_sub_cancel, ihv i (by omega), rm_sc L (i + 1)]
      cases h1 : mM L (i + 1) <;> cases h2 : mM L i <;> simp [rm_sc, h2, Bool.and_comm, Bool.or_comm]
/-- What Match says. -/
theorem mtF_is (s : By) : mtF L s L.length = rm L L.length s.reverse := by
  rw [mtF_rev, mF_is L _ _ (Nat.le_refl _), mM_out L (Nat.le_refl _)]
  rfl
end
end Go.Proofs.YtdgoilkgplnhfaaGreat
/-
  Whether some number of a list passes a test; the greatest byte. Condition: lists no longer than a process can hold.
-/
namespace Go.Proofs.YtdgoilkgplnhfaaGreat
open Go.RowKit Go.Lib

/-- Raw numbers as they lie in memory. -/
def ZAt (w : World) (ao : Option Addr) (L : List Int) : Prop := L = [] ∨ ∃ b off, ao = some ⟨b, off, none⟩ ∧ b < w.heap.size ∧ ∀ i (h : i < L.length), w.cell? ⟨b, off + i, none⟩ = some (.int .i64 L[i])
theorem ZAt.below {w w' : World} {ao : Option Addr} {L : List Int} (h : ZAt w ao L) (hb : Below w.heap.size w w') : ZAt w' ao L := by
  rcases h with h | ⟨b, off, h1, h2, h3⟩
  · exact .inl h
  · exact .inr ⟨b, off, h1, Nat.lt_of_lt_of_le h2 hb.size, fun i hi => (hb.cell (p := ⟨b, off + i, none⟩) h2).trans (h3 i hi)⟩
theorem ZAt.get {w : World} {ao : Option Addr} {L : List Int} (h : ZAt w ao L) {i : Nat} (hi : i < L.length) : ∃ b off, ao = some ⟨b, off, none⟩ ∧ w.cell? ⟨b, off + i, none⟩ = some (.int .i64 L[i]) := by
  rcases h with h | ⟨b, off, h1, h2, h3⟩
  · rw [h] at hi; cases hi
  · exact ⟨b, off, h1, h3 i hi⟩
set_option maxRecDepth 100000 in
set_option maxHeartbeats 2000000 in
theorem indexZ_any (fv : Value) (cl : Nat) (caps : List Value) (hfv : fv = .func (.func cl) #[] caps.toArray) (he : ∀ args w, (callFunc cl args).run Tryz.prog w = .ok (.enter cl args) w) (p : Int → Bool) (ao : Option Addr) (cap : Nat) (L : List Int) (w : World) (hl : L.length ≤ 140737488351232) (hat : ZAt w ao L) (hc : ∀ z ∈ L, ∀ W, Below w.heap.size w W → Calls Tryz.prog cl (.int .i64 z :: caps).toArray W fun e w' => e = .returned (.bool (p z)) ∧ Below W.heap.size W w') :
    Calls Tryz.prog 110 #[.slice ao L.length cap, fv] w fun e w' => (∃ i : Int, e = .returned (.int .i64 i) ∧ (0 ≤ i ↔ ∃ x, x ∈ L ∧ p x = true) ∧ -1 ≤ i) ∧ Below w.heap.size w w' := by
  subst hfv
  have HAT := hide hat
  have HC := hide hc
  clear hat hc
  go_enter Tryz.func110, Tryz.ntmps110
  go_wp2
  go_loopg [8] (L.length + 1) (fun g x wr => ∃ k : Nat, x = .int .i64 (k : Nat) ∧ k ≤ L.length ∧ Hid ((L.take k).any p = false) ∧ Hid (Below w.heap.size w wr) ∧ L.length - k < g)
  case atStart => exact ⟨0, rfl, by omega, by simp [Hid], hide (Below.refl _ _), by omega⟩
  case round =>
    obtain ⟨k, rfl, hk1, HA, XB, hg⟩ := hrel
    have HG := hide hg
    clear hg
    by_cases hk : k < L.length
    · have hk' : (k : Int) < (L.length : Int) := by omega
      obtain ⟨b, off, rfl, c0⟩ := (HAT.out.below XB.out).get hk
      obtain ⟨z, hz⟩ : ∃ z, L[k] = z := ⟨_, rfl⟩
      have H1 := hide (HC.out L[k] (List.getElem_mem hk) wr XB.out)
      have HZ : Hid ((L.take (k + 1)).any p = p z) := by unfold Hid; rw [List.take_succ_eq_append_getElem hk, List.any_append, HA.out, hz]; simp
      have HZ2 : Hid (z ∈ L) := by unfold Hid; rw [← hz]; exact List.getElem_mem hk
      rw [hz] at c0 H1
      clear hz
      go_wp2_with (fail)
      refine H1.out.mono ?_
      rintro e w3 ⟨rfl, x3⟩
      have X3 := hide (bt XB.out x3 (Nat.le_refl _))
      clear H1 x3 c0
      cases hp : p z with
      | true =>
        have HP := hide hp
        go_wp2
        go_ret
        exact ⟨⟨_, rfl, ⟨fun _ => ⟨z, HZ2.out, HP.out⟩, fun _ => by omega⟩, by omega⟩, X3.out⟩
      | false =>
        have HZ3 : Hid ((L.take (k + 1)).any p = false) := HZ.out.trans hp
        go_wp2
        go_roundg (L.length - (k + 1) + 1)
        case measure => have := HG.out; omega
        case rel => exact ⟨k + 1, by first | rfl | go_num | (congr 1; omega), by omega, HZ3, X3, by omega⟩
    · have hk' : ¬ (k : Int) < (L.length : Int) := by omega
      obtain rfl : k = L.length := by omega
      have HE : Hid (L.any p = false) := by have := HA.out; rwa [List.take_length] at this
      go_wp2
      go_ret
      exact ⟨⟨-1, rfl, ⟨fun h => by omega, fun h => by obtain ⟨x, h1, h2⟩ := h; have h3 := List.any_eq_true.2 ⟨x, h1, h2⟩; rw [HE.out] at h3; cases h3⟩, by omega⟩, XB.out⟩
set_option maxRecDepth 100000 in
theorem containsZ_any (fv : Value) (cl : Nat) (caps : List Value) (hfv : fv = .func (.func cl) #[] caps.toArray) (he : ∀ args w, (callFunc cl args).run Tryz.prog w = .ok (.enter cl args) w) (p : Int → Bool) (ao : Option Addr) (cap : Nat) (L : List Int) (w : World) (hl : L.length ≤ 140737488351232) (hat : ZAt w ao L) (hc : ∀ z ∈ L, ∀ W, Below w.heap.size w W → Calls Tryz.prog cl (.int .i64 z :: caps).toArray W fun e w' => e = .returned (.bool (p z)) ∧ Below W.heap.size W w') :
    Calls Tryz.prog 76 #[.slice ao L.length cap, fv] w fun e w' => e = .returned (.bool (L.any p)) ∧ Below w.heap.size w w' := by
  have H1 := hide (indexZ_any fv cl caps hfv he p ao cap L w hl hat hc)
  clear hc hat hfv he
  go_enter Tryz.func76, Tryz.ntmps76
  go_wp2_with (fail)
  refine H1.out.mono ?_
  rintro e w2 ⟨⟨i, rfl, hi, _⟩, x2⟩
  have X2 := hide x2
  clear H1 x2
  by_cases h0 : 0 ≤ i
  · have HE : Hid (L.any p = true) := List.any_eq_true.2 (hi.1 h0)
    clear hi
    go_wp2
    go_ret
    exact ⟨by rw [HE.out]; first | rfl | simp_all, X2.out⟩
  · have HE : Hid (L.any p = false) := by
      unfold Hid
      cases hx : L.any p with
      | false => rfl
      | true => exact absurd (hi.2 (List.any_eq_true.1 hx)) h0
    clear hi
    go_wp2
    go_ret
    exact ⟨by rw [HE.out]; first | rfl | simp_all, X2.out⟩
def noneB (n : Nat) (z : Int) : Bool := decide (z < 0 ∨ (n : Int) ≤ z)
set_option maxRecDepth 100000 in
theorem mayBe1_any (oa : Option Addr) (n oc xb : Nat) (z : Int) (w : World) (hc : w.cell? ⟨xb, 2, none⟩ = some (.slice oa n oc)) :
    Calls Tryz.prog 74 #[.int .i64 z, .pointer (some ⟨xb, 0, none⟩)] w fun e w' => e = .returned (.bool (noneB n z)) ∧ Below w.heap.size w w' := by
  by_cases h1 : z < 0
  · have HE : Hid (noneB n z = true) := decide_eq_true (.inl h1)
    go_enter Tryz.func74, Tryz.ntmps74
    go_wp2
    go_ret
    exact ⟨by rw [HE.out]; first | rfl | simp_all, Below.refl _ _⟩
  · by_cases h2 : (n : Int) ≤ z
    · have HE : Hid (noneB n z = true) := decide_eq_true (.inr h2)
      go_enter Tryz.func74, Tryz.ntmps74
      go_wp2
      go_ret
      exact ⟨by rw [HE.out]; first | rfl | simp_all, Below.refl _ _⟩
    · have HE : Hid (noneB n z = false) := decide_eq_false (fun h => by omega)
      go_enter Tryz.func74, Tryz.ntmps74
      go_wp2
      go_ret
      exact ⟨by rw [HE.out]; first | rfl | simp_all, Below.refl _ _⟩
def nlB (z : Int) : Bool := !decide (Lab z)
set_option maxRecDepth 100000 in
theorem mayBe2_any (z : Int) (w : World) : Calls Tryz.prog 75 #[.int .i64 z] w fun e w' => e = .returned (.bool (nlB z)) ∧ Below w.heap.size w w' := by
  have H1 := hide (isLabel_any z w)
  have HE : Hid (nlB z = !decide (Lab z)) := rfl
  generalize decide (Lab z) = b at *
  generalize nlB z = c at *
  go_enter Tryz.func75, Tryz.ntmps75
  go_wp2_with (fail)
  refine H1.out.mono ?_
  rintro e w2 ⟨rfl, hw⟩
  have hw := hw.symm
  subst hw
  go_wp2
  go_ret
  exact ⟨by rw [HE.out]; rfl, Below.refl _ _⟩
/-- The greatest of some bytes. -/
def mxL (L : List Nat) : Nat := L.foldl max 0
theorem mxL_snoc (L : List Nat) (x : Nat) : mxL (L ++ [x]) = max (mxL L) x := by simp [mxL, List.foldl_append]
set_option maxRecDepth 100000 in
set_option maxHeartbeats 2000000 in
theorem max_any (xb cap : Nat) (L : List Nat) (w : World) (h0 : 0 < L.length) (hl : L.length ≤ 140737488351232) (hc : ∀ i (h : i < L.length), w.cell? ⟨xb, i, none⟩ = some (.int .u8 (L[i] : Int))) :
    Calls Tryz.prog 73 #[.slice (some ⟨xb, 0, none⟩) L.length cap] w fun e w' => e = .returned (.int .u8 ((mxL L : Nat) : Int)) ∧ w' = w := by
  have c0 := hc 0 h0
  have HC := hide hc
  have h0' : (0 : Int) < (L.length : Int) := by omega
  have h1' : ¬ (L.length : Int) < 1 := by omega
  have HM0 : Hid (mxL (L.take 1) = L[0]) := by
    unfold Hid
    rw [List.take_succ_eq_append_getElem h0, List.take_zero, List.nil_append]
    simp [mxL]
  clear hc
  go_enter Tryz.func73, Tryz.ntmps73
  go_wp2
  go_loopg [3, 4] (L.length + 1) (fun g m x wr => ∃ k : Nat, x = .int .i64 (k : Nat) ∧ k ≤ L.length ∧ m = .int .u8 ((mxL (L.take k) : Nat) : Int) ∧ wr = w ∧ L.length - k < g)
  case atStart => exact ⟨1, rfl, by omega, by rw [HM0.out], rfl, by omega⟩
  case round =>
    obtain ⟨k, rfl, hk1, rfl, rfl, hg⟩ := hrel
    have HG := hide hg
    clear hg c0
    by_cases hk : k < L.length
    · have hk' : (k : Int) < (L.length : Int) := by omega
      have c1 := HC.out k hk
      have HM : Hid (mxL (L.take (k + 1)) = max (mxL (L.take k)) L[k]) := by unfold Hid; rw [List.take_succ_eq_append_getElem hk, mxL_snoc]
      generalize L[k] = y at *
      generalize mxL (L.take k) = m at *
      go_wp2
      all_goals
        go_roundg (L.length - (k + 1) + 1)
        case measure => have := HG.out; omega
        case rel => exact ⟨k + 1, by first | rfl | go_num | (congr 1; omega), by omega, by rw [HM.out]; first | rfl | (congr 1; omega), by first | rfl | trivial, by omega⟩
    · have hk' : ¬ (k : Int) < (L.length : Int) := by omega
      obtain rfl : k = L.length := by omega
      have HE : Hid (mxL (L.take L.length) = mxL L) := by unfold Hid; rw [List.take_length]
      rw [HE.out]
      go_wp2
      go_ret
      exact ⟨rfl, rfl⟩
end Go.Proofs.YtdgoilkgplnhfaaGreat
