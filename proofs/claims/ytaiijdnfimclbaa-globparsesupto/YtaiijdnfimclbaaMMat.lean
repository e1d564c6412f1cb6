/-
  What marks say: a text can be cut so that each piece takes its part. No condition.
-/
import Derived.Test.YtaiijdnfimclbaaMat
namespace Go.Proofs.Ytaiijdnfimclbaa

section
variable (L : List Pc)
def mM (i : Nat) : Bool := manyK (L.getD i zPc).kind
def mT (i : Nat) (c : UInt8) : Bool := tkB (L.getD i zPc) ((c.toNat : Nat) : Int)
/-- Do the first i pieces take a text (its last byte first)? -/
def rm : Nat → By → Bool
  | 0, [] => true
  | 0, _ :: _ => false
  | i + 1, [] => mM L i && rm i []
  | i + 1, c :: v => if mM L i then rm i (c :: v) || (mT L i c && rm (i + 1) v) else mT L i c && rm i v
termination_by i v => (v.length, i)
theorem mM_out {i : Nat} (h : L.length ≤ i) : mM L i = false := by
  unfold mM
  rw [List.getD_eq_getElem?_getD, List.getElem?_eq_none h]
  rfl
theorem upd_self (f : Nat → Bool) (i : Nat) : upd f i i = true := by simp [upd]
theorem upd_ne {f : Nat → Bool} {i j : Nat} (h : ¬ j = i) : upd f i j = f j := by simp [upd, h]
theorem clF_succ (f : Nat → Bool) (k : Nat) : clF L f (k + 1) = if clF L f k k && mM L k then upd (clF L f k) (k + 1) else clF L f k := rfl
theorem clF_ne (f : Nat → Bool) (k : Nat) {j : Nat} (h : ¬ j = k + 1) : clF L f (k + 1) j = clF L f k j := by
  rw [clF_succ]
  split
  · exact upd_ne h
  · rfl
theorem clF_early (f : Nat → Bool) : ∀ (k : Nat) {j : Nat}, k < j → clF L f k j = f j
  | 0, _, _ => rfl
  | k + 1, j, h => by rw [clF_ne L f k (by omega), clF_early f k (by omega)]
theorem clF_late (f : Nat → Bool) (j : Nat) : ∀ (d : Nat), clF L f (j + d) j = clF L f j j
  | 0 => rfl
  | d + 1 => by rw [← Nat.add_assoc, clF_ne L f (j + d) (by omega), clF_late f j d]
theorem cl_zero (f : Nat → Bool) (n : Nat) : clF L f n 0 = f 0 := by
  have := clF_late L f 0 n
  rwa [Nat.zero_add] at this
theorem cl_succ (f : Nat → Bool) {n i : Nat} (h : i < n) : clF L f n (i + 1) = (f (i + 1) || (mM L i && clF L f n i)) := by
  have h1 := clF_late L f (i + 1) (n - (i + 1))
  rw [show i + 1 + (n - (i + 1)) = n by omega] at h1
  have h2 := clF_late L f i (n - i)
  rw [show i + (n - i) = n by omega] at h2
  rw [h1, h2, clF_succ]
  split
  · rename_i hh
    rw [upd_self]
    simp only [Bool.and_eq_true] at hh
    simp [hh.1, hh.2]
  · rename_i hh
    rw [clF_early L f i (by omega)]
    cases hc : clF L f i i <;> cases hm : mM L i <;> simp_all
theorem afF_succ (f : Nat → Bool) (c : UInt8) (k : Nat) : afF L f ((c.toNat : Nat) : Int) (k + 1) = if f k && mT L k c then (if mM L k then upd (afF L f ((c.toNat : Nat) : Int) k) k else upd (afF L f ((c.toNat : Nat) : Int) k) (k + 1)) else afF L f ((c.toNat : Nat) : Int) k := rfl
/-- What one byte leads to. -/
theorem af_is (f : Nat → Bool) (c : UInt8) : ∀ (k i : Nat), afF L f ((c.toNat : Nat) : Int) k i = ((decide (i < k) && (f i && mT L i c && mM L i)) || (decide (0 < i ∧ i - 1 < k) && (f (i - 1) && mT L (i - 1) c && !mM L (i - 1))))
  | 0, i => by simp [afF]
  | k + 1, i => by
    have ih := af_is f c k
    rw [afF_succ]
    by_cases hh : (f k && mT L k c) = true
    · rw [if_pos hh]
      by_cases hm : mM L k = true
      · rw [if_pos hm]
        by_cases hi : i = k
        · subst hi
          rw [upd_self]
          simp [hh, hm]
        · rw [upd_ne hi, ih i]
          have e1 : decide (i < k + 1) = decide (i < k) := by congr 1; simp; omega
          rw [e1]
          by_cases hp : 0 < i ∧ i - 1 = k
          · rw [hp.2, hm]; simp
          · have e2 : decide (0 < i ∧ i - 1 < k + 1) = decide (0 < i ∧ i - 1 < k) := by congr 1; simp; omega
            rw [e2]
      · rw [if_neg hm]
        simp only [Bool.not_eq_true] at hm
        by_cases hi : i = k + 1
        · subst hi
          rw [upd_self]
          simp [hh, hm]
        · rw [upd_ne hi, ih i]
          have e2 : decide (0 < i ∧ i - 1 < k + 1) = decide (0 < i ∧ i - 1 < k) := by congr 1; simp; omega
          rw [e2]
          by_cases hp : i = k
          · subst hp; rw [hm]; simp
          · have e1 : decide (i < k + 1) = decide (i < k) := by congr 1; simp; omega
            rw [e1]
    · rw [if_neg hh, ih i]
      simp only [Bool.not_eq_true] at hh
      by_cases h1 : i = k
      · subst h1
        rw [hh]
        by_cases hp : 0 < i
        · have e2 : decide (0 < i ∧ i - 1 < i + 1) = decide (0 < i ∧ i - 1 < i) := by congr 1; simp; omega
          rw [e2]; simp
        · have : i = 0 := by omega
          subst this; simp
      · have e1 : decide (i < k + 1) = decide (i < k) := by congr 1; simp; omega
        rw [e1]
        by_cases hp : 0 < i ∧ i - 1 = k
        · rw [hp.2, hh]; simp
        · have e2 : decide (0 < i ∧ i - 1 < k + 1) = decide (0 < i ∧ i - 1 < k) := by congr 1; simp; omega
          rw [e2]
/-- Marks behind a text (its last byte first). -/
def mF : By → (Nat → Bool)
  | [] => clF L (upd (fun _ => false) 0) L.length
  | c :: v => stF L (mF v) c
theorem mtF_rev (s : By) : mtF L s = mF L s.reverse := by
  suffices h : ∀ v : By, mtF L v.reverse = mF L v by
    have := h s.reverse
    rwa [List.reverse_reverse] at this
  intro v
  induction v with
  | nil => rfl
  | cons c v ih => rw [List.reverse_cons, mtF_snoc, ih]; rfl
theorem rm_00 : rm L 0 [] = true := by unfold rm; rfl
theorem rm_0c (c : UInt8) (v : By) : rm L 0 (c :: v) = false := by unfold rm; rfl
theorem rm_s0 (i : Nat) : rm L (i + 1) [] = (mM L i && rm L i []) := by conv => lhs; unfold rm
theorem rm_sc (i : Nat) (c : UInt8) (v : By) : rm L (i + 1) (c :: v) = if mM L i then rm L i (c :: v) || (mT L i c && rm L (i + 1) v) else mT L i c && rm L i v := by conv => lhs; unfold rm
theorem mF_is : ∀ (v : By) (i : Nat), i ≤ L.length → mF L v i = if mM L i then rm L (i + 1) v else rm L i v
  | [], i, hi => by
    induction i with
    | zero =>
      show clF L (upd (fun _ => false) 0) L.length 0 = _
      rw [cl_zero, upd_self, rm_s0, rm_00]
      cases mM L 0 <;> rfl
    | succ i ih =>
      have ih := ih (by omega)
      have e : mF L [] (i + 1) = (mM L i && mF L [] i) := by
        show clF L (upd (fun _ => false) 0) L.length (i + 1) = (mM L i && clF L (upd (fun _ => false) 0) L.length i)
        rw [cl_succ L _ (by omega), upd_ne (by omega), Bool.false_or]
      rw [e, ih, rm_s0 L (i + 1)]
      cases h1 : mM L (i + 1) <;> cases h2 : mM L i <;> simp [rm_s0, h2]
  | c :: v, i, hi => by
    have ihv := mF_is v
    have haf : ∀ j, j ≤ L.length → afF L (mF L v) ((c.toNat : Nat) : Int) L.length j = ((mF L v j && mT L j c && mM L j) || (decide (0 < j) && (mF L v (j - 1) && mT L (j - 1) c && !mM L (j - 1)))) := fun j hj => by
      rw [af_is]
      by_cases h1 : j < L.length
      · have e1 : decide (j < L.length) = true := decide_eq_true h1
        have e2 : decide (0 < j ∧ j - 1 < L.length) = decide (0 < j) := by congr 1; simp; omega
        rw [e1, e2, Bool.true_and]
      · have e1 : decide (j < L.length) = false := decide_eq_false h1
        have e2 : decide (0 < j ∧ j - 1 < L.length) = decide (0 < j) := by congr 1; simp; omega
        rw [e1, e2, mM_out L (by omega : L.length ≤ j)]
        simp
    induction i with
    | zero =>
      show clF L (afF L (mF L v) ((c.toNat : Nat) : Int) L.length) L.length 0 = _
      rw [cl_zero, haf 0 hi, ihv 0 hi, rm_sc, rm_0c]
      cases h : mM L 0 <;> simp [Bool.and_comm]
    | succ i ih =>
      have ih := ih (by omega)
      have e : mF L (c :: v) (i + 1) = (afF L (mF L v) ((c.toNat : Nat) : Int) L.length (i + 1) || (mM L i && mF L (c :: v) i)) := by
        show clF L (afF L (mF L v) ((c.toNat : Nat) : Int) L.length) L.length (i + 1) = (_ || (mM L i && clF L (afF L (mF L v) ((c.toNat : Nat) : Int) L.length) L.length i))
        rw [cl_succ L _ (by omega)]
      rw [e, ih, haf (i + 1) hi, ihv (i + 1) hi, Nat.add_sub_cancel, ihv i (by omega), rm_sc L (i + 1)]
      cases h1 : mM L (i + 1) <;> cases h2 : mM L i <;> simp [rm_sc, h2, Bool.and_comm, Bool.or_comm]
/-- What Match says. -/
theorem mtF_is (s : By) : mtF L s L.length = rm L L.length s.reverse := by
  rw [mtF_rev, mF_is L _ _ (Nat.le_refl _), mM_out L (Nat.le_refl _)]
  rfl
end
end Go.Proofs.Ytaiijdnfimclbaa
