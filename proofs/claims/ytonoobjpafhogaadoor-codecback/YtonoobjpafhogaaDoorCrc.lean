/-
  The check of bytes as plain numbers: its steps, that they are linear, and that bits turned within 32 change it. No condition.
-/
namespace Go.Proofs.YtonoobjpafhogaaDoor.Crc
/-- one step of the check -/
def half (x : Nat) : Nat := if x % 2 = 1 then (x / 2) ^^^ 3988292384 else x / 2
def steps : Nat → Nat → Nat
  | 0, x => x
  | k + 1, x => steps k (half x)
theorem steps_succ (k x : Nat) : steps (k + 1) x = half (steps k x) := by
  induction k generalizing x with
  | zero => rfl
  | succ k ih => rw [steps, ih]; rfl
theorem steps_add (a b x : Nat) : steps (a + b) x = steps b (steps a x) := by
  induction a generalizing x with
  | zero => simp [steps]
  | succ a ih => rw [show a + 1 + b = (a + b) + 1 by omega, steps, ih, steps]
def byte (x b : Nat) : Nat := steps 8 (x ^^^ b)
def run (x : Nat) (l : List Nat) : Nat := l.foldl byte x
theorem run_nil (x : Nat) : run x [] = x := rfl
theorem run_cons (x b : Nat) (l : List Nat) : run x (b :: l) = run (byte x b) l := rfl
def sum (l : List Nat) : Nat := run 4294967295 l ^^^ 4294967295

theorem run_append (x : Nat) (l m : List Nat) : run x (l ++ m) = run (run x l) m := by
  simp [run]

theorem half_lt (x : Nat) (h : x < 4294967296) : half x < 4294967296 := by
  unfold half
  split
  · exact Nat.xor_lt_two_pow (n := 32) (by omega) (by omega)
  · omega
theorem steps_lt (k x : Nat) (h : x < 4294967296) : steps k x < 4294967296 := by
  induction k generalizing x with
  | zero => exact h
  | succ k ih => exact ih _ (half_lt x h)
theorem byte_lt (x b : Nat) (h : x < 4294967296) (hb : b < 256) : byte x b < 4294967296 :=
  steps_lt _ _ (Nat.xor_lt_two_pow (n := 32) (by omega) (by omega))
theorem run_lt (x : Nat) (l : List Nat) (h : x < 4294967296) (hl : ∀ b ∈ l, b < 256) : run x l < 4294967296 := by
  induction l generalizing x with
  | nil => exact h
  | cons b l ih => rw [run_cons]; exact ih _ (byte_lt x b h (hl b (by simp))) (fun c hc => hl c (by simp [hc]))

theorem half_xor (x y : Nat) : half (x ^^^ y) = half x ^^^ half y := by
  unfold half
  have hd : (x ^^^ y) / 2 = x / 2 ^^^ y / 2 := by
    apply Nat.eq_of_testBit_eq; intro i
    simp only [Nat.testBit_xor, Nat.testBit_div_two]
  have hm : (x ^^^ y) % 2 = (x % 2 + y % 2) % 2 := by
    have h := Nat.testBit_xor x y 0
    simp only [Nat.testBit_zero] at h
    rcases Nat.mod_two_eq_zero_or_one x with hx | hx <;> rcases Nat.mod_two_eq_zero_or_one y with hy | hy <;> rcases Nat.mod_two_eq_zero_or_one (x ^^^ y) with hz | hz <;> simp_all
  rw [hd, hm]
  rcases Nat.mod_two_eq_zero_or_one x with hx | hx <;> rcases Nat.mod_two_eq_zero_or_one y with hy | hy <;> simp only [hx, hy]
  · simp
  · simp [Nat.xor_assoc]
  · rw [if_pos (by decide), if_pos trivial, if_neg (by decide)]
    simp only [Nat.xor_assoc]
    rw [Nat.xor_comm (y / 2)]
  · simp only [Nat.reduceAdd, Nat.reduceMod, if_true]
    rw [if_neg (by decide)]
    apply Nat.eq_of_testBit_eq; intro i
    simp only [Nat.testBit_xor]
    cases Nat.testBit (x / 2) i <;> cases Nat.testBit (y / 2) i <;> cases Nat.testBit 3988292384 i <;> rfl
theorem steps_xor (k x y : Nat) : steps k (x ^^^ y) = steps k x ^^^ steps k y := by
  induction k generalizing x y with
  | zero => rfl
  | succ k ih => rw [steps, half_xor, ih, steps, steps]
theorem half_two (y : Nat) : half (2 * y) = y := by unfold half; rw [if_neg (by omega)]; omega
theorem steps_shift (k y : Nat) : steps k (y * 2 ^ k) = y := by
  induction k with
  | zero => simp [steps]
  | succ k ih => rw [steps, show y * 2 ^ (k + 1) = 2 * (y * 2 ^ k) by rw [Nat.pow_succ]; ac_rfl, half_two, ih]

/-- the bytes as one number, the first byte the lowest -/
def le : List Nat → Nat
  | [] => 0
  | b :: l => b ^^^ (le l * 2 ^ 8)
theorem run_le (x : Nat) (l : List Nat) : run x l = steps (8 * l.length) (x ^^^ le l) := by
  induction l generalizing x with
  | nil => simp [run_nil, steps, le]
  | cons b l ih =>
    rw [run_cons, ih, le, List.length_cons, show 8 * (l.length + 1) = 8 + 8 * l.length by omega, steps_add, ← Nat.xor_assoc, steps_xor 8 (x ^^^ b), steps_shift, byte]
theorem xor_eq_zero (a b : Nat) (h : a ^^^ b = 0) : a = b := by
  apply Nat.eq_of_testBit_eq; intro i
  have := congrArg (fun n => Nat.testBit n i) h
  simpa [Nat.testBit_xor] using this
theorem xor_cancel (a b c : Nat) (h : a ^^^ c = b ^^^ c) : a = b := by
  apply Nat.eq_of_testBit_eq; intro i
  have := congrArg (fun n => Nat.testBit n i) h
  simpa [Nat.testBit_xor] using this
theorem xor_self_zero (a b : Nat) (h : a ^^^ b = a) : b = 0 := by
  apply Nat.eq_of_testBit_eq; intro i
  have := congrArg (fun n => Nat.testBit n i) h
  simp only [Nat.testBit_xor, Nat.zero_testBit] at this ⊢
  revert this
  cases Nat.testBit a i <;> cases Nat.testBit b i <;> simp
theorem half_ne (x : Nat) (h : x < 4294967296) (h0 : x ≠ 0) : half x ≠ 0 := by
  unfold half
  split
  · intro h1
    have h2 := xor_eq_zero _ _ h1
    omega
  · omega
theorem steps_ne (k x : Nat) (h : x < 4294967296) (h0 : x ≠ 0) : steps k x ≠ 0 := by
  induction k generalizing x with
  | zero => exact h0
  | succ k ih => exact ih _ (half_lt x h) (half_ne x h h0)

theorem turned (l m : List Nat) (k t : Nat) (hlen : m.length = l.length) (hk : k ≤ 8 * l.length) (ht : t < 4294967296) (ht0 : t ≠ 0)
    (h : le m = le l ^^^ (t * 2 ^ k)) : sum m ≠ sum l := by
  intro he
  unfold sum at he
  have he' := xor_cancel _ _ _ he
  rw [run_le, run_le, hlen, h, ← Nat.xor_assoc, steps_xor (8 * l.length) (4294967295 ^^^ le l)] at he'
  have h0 := xor_self_zero _ _ he'
  obtain ⟨d, hd⟩ : ∃ d, 8 * l.length = k + d := ⟨8 * l.length - k, by omega⟩
  rw [hd, steps_add, steps_shift] at h0
  exact steps_ne d t ht ht0 h0

/-- one bit turned in one byte -/
theorem le_set (l : List Nat) (j m : Nat) (hj : j < l.length) : le (l.set j (l.getD j 0 ^^^ 2 ^ m)) = le l ^^^ 2 ^ (8 * j + m) := by
  induction l generalizing j with
  | nil => simp at hj
  | cons b l ih =>
    cases j with
    | zero => simp [le, Nat.xor_assoc, Nat.xor_comm (2 ^ m)]
    | succ j =>
      simp only [List.set_cons_succ, List.getD_cons_succ, le]
      rw [ih j (by simpa using hj)]
      have : (le l ^^^ 2 ^ (8 * j + m)) * 2 ^ 8 = le l * 2 ^ 8 ^^^ 2 ^ (8 * (j + 1) + m) := by
        rw [show 8 * (j + 1) + m = (8 * j + m) + 8 by omega, Nat.pow_add 2 (8 * j + m) 8]
        rw [← Nat.shiftLeft_eq, ← Nat.shiftLeft_eq, ← Nat.shiftLeft_eq, Nat.shiftLeft_xor_distrib]
      rw [this, Nat.xor_assoc]
theorem sum_lt (l : List Nat) (hl : ∀ b ∈ l, b < 256) : sum l < 4294967296 :=
  Nat.xor_lt_two_pow (n := 32) (run_lt _ _ (by decide) hl) (by decide)
end Go.Proofs.YtonoobjpafhogaaDoor.Crc
