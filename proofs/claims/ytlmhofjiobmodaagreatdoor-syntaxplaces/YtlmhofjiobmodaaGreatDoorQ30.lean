/-
  Addresses as four bytes: masks, the first and the last address of a prefix, in numbers alone. No condition.
-/
import Derived.Laws.BitsAllLaws
namespace Go.Proofs.YtlmhofjiobmodaaGreatDoor

/-- Four bytes as one number. -/
def W4 (a b c d : Nat) : Nat := ((a * 256 + b) * 256 + c) * 256 + d
/-- The i-th byte of the mask of k bits. -/
def mk (k i : Nat) : Nat := 255 - 255 / 2 ^ min (k - 8 * i) 8

theorem mk_lt (k i : Nat) : mk k i < 256 := Nat.lt_of_le_of_lt (Nat.sub_le _ _) (by decide)

set_option maxRecDepth 100000 in
theorem and_all : ∀ t, t < 9 → ∀ q, q < 256 → ((q &&& (255 - 255 / 2 ^ t) = q) ↔ q % 2 ^ (8 - t) = 0) := by decide +kernel
set_option maxRecDepth 100000 in
theorem or_all : ∀ t, t < 9 → ∀ q, q < 256 → q % 2 ^ (8 - t) = 0 → q ||| (255 ^^^ (255 - 255 / 2 ^ t)) = q + (2 ^ (8 - t) - 1) := by decide +kernel

theorem and_mk (k i q : Nat) (hq : q < 256) : (q &&& mk k i = q) ↔ q % 2 ^ (8 - min (k - 8 * i) 8) = 0 := and_all _ (by omega) q hq
theorem or_mk (k i q : Nat) (hq : q < 256) (h : q % 2 ^ (8 - min (k - 8 * i) 8) = 0) : q ||| (255 ^^^ mk k i) = q + (2 ^ (8 - min (k - 8 * i) 8) - 1) := or_all _ (by omega) q hq h

theorem cases33 {p : Nat → Prop} (h : ∀ k, k < 33 → p k) (k : Nat) (hk : k ≤ 32) : p k := h k (by omega)

/-- The four tests as one. -/
theorem leads_iff (a b c d k : Nat) (ha : a < 256) (hb : b < 256) (hc : c < 256) (hd : d < 256) (hk : k ≤ 32) :
    (a &&& mk k 0 = a ∧ b &&& mk k 1 = b ∧ c &&& mk k 2 = c ∧ d &&& mk k 3 = d) ↔ W4 a b c d % 2 ^ (32 - k) = 0 := by
  rw [and_mk k 0 a ha, and_mk k 1 b hb, and_mk k 2 c hc, and_mk k 3 d hd]
  unfold W4
  rcases k with _ | _ | _ | _ | _ | _ | _ | _ | _ | _ | _ | _ | _ | _ | _ | _ | _ | _ | _ | _ | _ | _ | _ | _ | _ | _ | _ | _ | _ | _ | _ | _ | _ | k
  all_goals first | (simp only [Nat.zero_add, Nat.reduceAdd, Nat.reduceMul, Nat.reduceSub, Nat.min_def, Nat.reduceLeDiff, ↓reduceIte, Nat.reducePow, Nat.sub_self, Nat.zero_sub, Nat.sub_zero]; omega) | omega
theorem last_eq (a b c d k : Nat) (ha : a < 256) (hb : b < 256) (hc : c < 256) (hd : d < 256) (hk : k ≤ 32) (h : W4 a b c d % 2 ^ (32 - k) = 0) :
    W4 (a ||| (255 ^^^ mk k 0)) (b ||| (255 ^^^ mk k 1)) (c ||| (255 ^^^ mk k 2)) (d ||| (255 ^^^ mk k 3)) = W4 a b c d + 2 ^ (32 - k) - 1 := by
  obtain ⟨h1, h2, h3, h4⟩ := (leads_iff a b c d k ha hb hc hd hk).2 h
  rw [or_mk k 0 a ha ((and_mk k 0 a ha).1 h1), or_mk k 1 b hb ((and_mk k 1 b hb).1 h2), or_mk k 2 c hc ((and_mk k 2 c hc).1 h3), or_mk k 3 d hd ((and_mk k 3 d hd).1 h4)]
  clear h h1 h2 h3 h4
  unfold W4
  rcases k with _ | _ | _ | _ | _ | _ | _ | _ | _ | _ | _ | _ | _ | _ | _ | _ | _ | _ | _ | _ | _ | _ | _ | _ | _ | _ | _ | _ | _ | _ | _ | _ | _ | k
  all_goals first | (simp only [Nat.zero_add, Nat.reduceAdd, Nat.reduceMul, Nat.reduceSub, Nat.min_def, Nat.reduceLeDiff, ↓reduceIte, Nat.reducePow, Nat.sub_self, Nat.zero_sub, Nat.sub_zero]; omega) | omega
theorem or_lt (q m : Nat) (hq : q < 256) (hm : m < 256) : q ||| (255 ^^^ m) < 256 := Nat.or_lt_two_pow (n := 8) hq (Nat.xor_lt_two_pow (n := 8) (by decide) hm)
theorem W4_of (n : Nat) (h : n < 4294967296) : W4 (n / 16777216 % 256) (n / 65536 % 256) (n / 256 % 256) (n % 256) = n := by unfold W4; omega
theorem W4_lt (a b c d : Nat) (ha : a < 256) (hb : b < 256) (hc : c < 256) (hd : d < 256) : W4 a b c d < 4294967296 := by unfold W4; omega
/-- Four bytes are told by their number. -/
theorem W4_inj {a b c d a' b' c' d' : Nat} (hb : b < 256) (hc : c < 256) (hd : d < 256) (hb' : b' < 256) (hc' : c' < 256) (hd' : d' < 256) (h : W4 a b c d = W4 a' b' c' d') : a = a' ∧ b = b' ∧ c = c' ∧ d = d' := by
  unfold W4 at h; omega
end Go.Proofs.YtlmhofjiobmodaaGreatDoor
