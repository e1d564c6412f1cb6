/-
  How many numbers sets have: sizes add up. No condition.
-/
import Derived.Test.YtljagefcgijmlaaOps
namespace Go.Proofs.Ytljagefcgijmlaa

def one01 (b : Bool) : Nat := if b then 1 else 0
/-- How many numbers below N are in the list. -/
def cnt (L : List Spn) : Nat → Nat
  | 0 => 0
  | N + 1 => cnt L N + one01 (memB (N : Nat) L)
theorem cnt_nil (N : Nat) : cnt [] N = 0 := by
  induction N with
  | zero => rfl
  | succ N ih => simp [cnt, ih, memB_nil, one01]
theorem cnt_cons (s : Spn) (L : List Spn) (h : IsSet (s :: L)) (N : Nat) : cnt (s :: L) N = cnt [s] N + cnt L N := by
  induction N with
  | zero => rfl
  | succ N ih =>
    simp only [cnt, ih]
    have : one01 (memB (N : Nat) (s :: L)) = one01 (memB (N : Nat) [s]) + one01 (memB (N : Nat) L) := by
      by_cases hm : memB (N : Nat) L = true
      · have := h.above hm
        have e : memB (N : Nat) [s] = false := by simp [memB]; omega
        rw [memB_cons, hm, e]
        simp [one01]
      · rw [Bool.not_eq_true] at hm
        rw [memB_cons, memB_cons, memB_nil, hm]
        simp [one01]
    omega
theorem cnt_one (s : Spn) (h0 : 0 ≤ s.1) (h1 : s.1 ≤ s.2) (N : Nat) : (cnt [s] N : Int) = if (N : Int) ≤ s.1 then 0 else if (N : Int) ≤ s.2 + 1 then (N : Int) - s.1 else s.2 + 1 - s.1 := by
  induction N with
  | zero => simp [cnt, h0]
  | succ N ih =>
    have e : memB (N : Nat) [s] = (decide (s.1 ≤ (N : Int)) && decide ((N : Int) ≤ s.2)) := by simp [memB]
    simp only [cnt, e, one01]
    rw [Int.natCast_add, ih]
    by_cases a : s.1 ≤ (N : Int) <;> by_cases b : (N : Int) ≤ s.2
    · simp [a, b]
      split <;> split <;> (try split) <;> omega
    · simp [a, b]
      split <;> split <;> (try split) <;> (try split) <;> omega
    · simp [a, b]
      split <;> split <;> (try split) <;> (try split) <;> omega
    · simp [a, b]
      split <;> split <;> (try split) <;> (try split) <;> omega
theorem cnt_size (L : List Spn) (h : IsSet L) (N : Nat) (hN : N = 4294967296) : (cnt L N : Int) = sizeL L := by
  induction L with
  | nil => rw [cnt_nil]; rfl
  | cons s L ih =>
    have hs := h.head
    unfold Bnd at hs
    rw [cnt_cons s L h, Int.natCast_add, ih h.tail, cnt_one s hs.1 hs.2.1, sizeL]
    rw [if_neg (by omega)]
    split <;> omega
theorem cnt_add {U V A B : List Spn} (h : ∀ n : Nat, one01 (memB (n : Nat) U) + one01 (memB (n : Nat) V) = one01 (memB (n : Nat) A) + one01 (memB (n : Nat) B)) (N : Nat) : cnt U N + cnt V N = cnt A N + cnt B N := by
  induction N with
  | zero => rfl
  | succ N ih => simp only [cnt]; have := h N; omega
theorem cnt_all {A Z : List Spn} (N : Nat) (h : ∀ n : Nat, n < N → one01 (memB (n : Nat) A) + one01 (memB (n : Nat) Z) = 1) : cnt A N + cnt Z N = N := by
  induction N with
  | zero => rfl
  | succ N ih => simp only [cnt]; have := h N (by omega); have := ih (fun n hn => h n (by omega)); omega

section
variable {A B U V W Z : List Spn}
theorem upto2 {f : List Bool → Bool} {M : List Spn} (h : Upto f [A, B] 4294967296 M) (n : Int) : memB n M = (decide (0 ≤ n) && decide (n < 4294967296) && f [memB n A, memB n B]) := h.says n
theorem upto1 {f : List Bool → Bool} {M : List Spn} (h : Upto f [A] 4294967296 M) (n : Int) : memB n M = (decide (0 ≤ n) && decide (n < 4294967296) && f [memB n A]) := h.says n
theorem inr {n : Int} (hA : IsSet A) (h : memB n A = true) : decide (0 ≤ n) = true ∧ decide (n < 4294967296) = true := by
  have := hA.range h
  simp
  omega
theorem or_mem (hA : IsSet A) (hB : IsSet B) (hU : Upto fOr [A, B] 4294967296 U) (n : Int) : memB n U = (memB n A || memB n B) := by
  rw [upto2 hU]
  by_cases a : memB n A = true
  · have := inr hA a; simp [fOr, a, this]
  · by_cases b : memB n B = true
    · have := inr hB b; simp [fOr, b, this]
    · rw [Bool.not_eq_true] at a b; simp [fOr, a, b]
theorem and_mem (hA : IsSet A) (hV : Upto fAnd [A, B] 4294967296 V) (n : Int) : memB n V = (memB n A && memB n B) := by
  rw [upto2 hV]
  by_cases a : memB n A = true
  · have := inr hA a; simp [fAnd, a, this]
  · rw [Bool.not_eq_true] at a; simp [fAnd, a]
theorem sub_mem (hA : IsSet A) (hW : Upto fSub [A, B] 4294967296 W) (n : Int) : memB n W = (memB n A && !memB n B) := by
  rw [upto2 hW]
  by_cases a : memB n A = true
  · have := inr hA a; simp [fSub, a, this]
  · rw [Bool.not_eq_true] at a; simp [fSub, a]
theorem not_mem (hZ : Upto fNot [A] 4294967296 Z) (n : Int) : memB n Z = (decide (0 ≤ n) && decide (n < 4294967296) && !memB n A) := by
  rw [upto1 hZ]; simp [fNot]
theorem size_two (hA : IsSet A) (hB : IsSet B) (hU : Upto fOr [A, B] 4294967296 U) (hV : Upto fAnd [A, B] 4294967296 V) : sizeL U + sizeL V = sizeL A + sizeL B := by
  obtain ⟨N, hN⟩ : ∃ N : Nat, N = 4294967296 := ⟨_, rfl⟩
  have h := cnt_add (U := U) (V := V) (A := A) (B := B) (fun n => by
    rw [or_mem hA hB hU, and_mem hA hV]
    cases memB (n : Nat) A <;> cases memB (n : Nat) B <;> rfl) N
  have := cnt_size U hU.set N hN
  have := cnt_size V hV.set N hN
  have := cnt_size A hA N hN
  have := cnt_size B hB N hN
  omega
theorem size_not (hA : IsSet A) (hZ : Upto fNot [A] 4294967296 Z) : sizeL A + sizeL Z = 4294967296 := by
  obtain ⟨N, hN⟩ : ∃ N : Nat, N = 4294967296 := ⟨_, rfl⟩
  have h := cnt_all (A := A) (Z := Z) N (fun n hn => by
    rw [not_mem hZ, decide_eq_true (show (0 : Int) ≤ (n : Int) by omega), decide_eq_true (show (n : Int) < 4294967296 by omega)]
    cases memB (n : Nat) A <;> rfl)
  have := cnt_size A hA N hN
  have := cnt_size Z hZ.set N hN
  omega
theorem back_is (hA : IsSet A) (hZ : Upto fNot [A] 4294967296 Z) {K : List Spn} (hK : Upto fNot [Z] 4294967296 K) : K = A := by
  refine IsSet.unique hK.set hA fun n => ?_
  rw [not_mem hK, not_mem hZ]
  by_cases a : memB n A = true
  · have := inr hA a; simp [a, this]
  · rw [Bool.not_eq_true] at a
    rw [a]
    cases decide (0 ≤ n) <;> cases decide (n < 4294967296) <;> rfl
theorem again_is (hA : IsSet A) (hV : Upto fAnd [A, B] 4294967296 V) (hW : Upto fSub [A, B] 4294967296 W) {K : List Spn} (hK : Upto fOr [V, W] 4294967296 K) : K = A := by
  refine IsSet.unique hK.set hA fun n => ?_
  rw [or_mem hV.set hW.set hK, and_mem hA hV, sub_mem hA hW]
  cases memB n A <;> cases memB n B <;> rfl
end
end Go.Proofs.Ytljagefcgijmlaa
