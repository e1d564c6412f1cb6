/-
  The fewest prefixes of a span: how wide the next one is, what it covers. No condition.
-/
import Derived.Test.YtfjifedfenpbbaaDoorQd
import Derived.Test.YtfjifedfenpbbaaDoorMSet
namespace Go.Proofs.YtfjifedfenpbbaaDoor

/-- May a prefix of b bits begin at n and end by hi? -/
def fits (n hi b : Nat) : Prop := n % 2 ^ (32 - b) = 0 ∧ n + 2 ^ (32 - b) - 1 ≤ hi
instance (n hi b : Nat) : Decidable (fits n hi b) := by unfold fits; infer_instance
/-- The fewest bits, from b on down. -/
def wid (n hi : Nat) : Nat → Nat
  | 0 => 0
  | b + 1 => if fits n hi b then wid n hi b else b + 1
theorem wid_le (n hi : Nat) : ∀ b, wid n hi b ≤ b
  | 0 => Nat.le_refl _
  | b + 1 => by
    simp only [wid]
    split
    · exact Nat.le_succ_of_le (wid_le n hi b)
    · exact Nat.le_refl _
theorem wid_fits {n hi : Nat} : ∀ {b}, fits n hi b → fits n hi (wid n hi b)
  | 0, h => h
  | b + 1, h => by
    simp only [wid]
    split
    · rename_i h2; exact wid_fits h2
    · exact h
theorem wid_stop {n hi : Nat} : ∀ {b k}, wid n hi b = k + 1 → ¬ fits n hi k
  | 0, k, h => by simp [wid] at h
  | b + 1, k, h => by
    simp only [wid] at h
    split at h
    · exact wid_stop h
    · rename_i h2
      obtain rfl : b = k := by omega
      exact h2
theorem fits_32 {n hi : Nat} (h : n ≤ hi) : fits n hi 32 := by
  unfold fits
  simp [Nat.mod_one]
  omega
def wd (n hi : Nat) : Nat := wid n hi 32
theorem wd_le (n hi : Nat) : wd n hi ≤ 32 := wid_le n hi 32
theorem wd_fits {n hi : Nat} (h : n ≤ hi) : fits n hi (wd n hi) := wid_fits (fits_32 h)
/-- The prefixes of a span, m of them at most. -/
def covN : Nat → Nat → Nat → List Spn
  | 0, _, _ => []
  | m + 1, lo, hi => if lo ≤ hi then ((lo : Int), (wd lo hi : Int)) :: covN m (lo + 2 ^ (32 - wd lo hi)) hi else []
def cov (lo hi : Nat) : List Spn := covN (hi + 1 - lo) lo hi
theorem covN_more : ∀ (m m' lo hi : Nat), hi + 1 - lo ≤ m → hi + 1 - lo ≤ m' → covN m lo hi = covN m' lo hi
  | 0, 0, _, _, _, _ => rfl
  | 0, m' + 1, lo, hi, h, _ => by rw [covN, covN, if_neg (by omega)]
  | m + 1, 0, lo, hi, _, h => by rw [covN, covN, if_neg (by omega)]
  | m + 1, m' + 1, lo, hi, h, h' => by
    have hp : 0 < 2 ^ (32 - wd lo hi) := Nat.pow_pos (by decide)
    rw [covN, covN]
    split
    · rw [covN_more m m' (lo + 2 ^ (32 - wd lo hi)) hi (by omega) (by omega)]
    · rfl
theorem cov_step {lo hi : Nat} (h : lo ≤ hi) : cov lo hi = ((lo : Int), (wd lo hi : Int)) :: cov (lo + 2 ^ (32 - wd lo hi)) hi := by
  have hp : 0 < 2 ^ (32 - wd lo hi) := Nat.pow_pos (by decide)
  unfold cov
  rw [show hi + 1 - lo = (hi - lo) + 1 by omega, covN, if_pos h]
  rw [covN_more (hi - lo) (hi + 1 - (lo + 2 ^ (32 - wd lo hi))) _ _ (by omega) (Nat.le_refl _)]
theorem cov_done {lo hi : Nat} (h : hi < lo) : cov lo hi = [] := by
  unfold cov
  rw [show hi + 1 - lo = 0 by omega, covN]
theorem cov_len : ∀ (m lo hi : Nat), hi + 1 - lo ≤ m → (cov lo hi).length ≤ hi + 1 - lo
  | 0, lo, hi, h => by rw [cov_done (by omega)]; simp
  | m + 1, lo, hi, h => by
    by_cases hl : lo ≤ hi
    · have hp : 0 < 2 ^ (32 - wd lo hi) := Nat.pow_pos (by decide)
      rw [cov_step hl, List.length_cons]
      have := cov_len m (lo + 2 ^ (32 - wd lo hi)) hi (by omega)
      omega
    · rw [cov_done (by omega)]; simp
/-- A span's prefixes. -/
def covS (s : Spn) : List Spn := cov s.1.toNat s.2.toNat
/-- A set's prefixes. -/
def covL (L : List Spn) : List Spn := L.flatMap covS
theorem covL_snoc (L : List Spn) (s : Spn) : covL (L ++ [s]) = covL L ++ covS s := by simp [covL]
theorem covL_take (L : List Spn) (k : Nat) (hk : k < L.length) : covL (L.take (k + 1)) = covL (L.take k) ++ covS (L.getD k (0, 0)) := by
  rw [List.take_succ_eq_append_getElem hk, covL_snoc]
  simp [List.getD_eq_getElem?_getD, hk]
theorem covS_len (s : Spn) (h : Bnd s) : ((covS s).length : Int) ≤ s.2 - s.1 + 1 := by
  unfold Bnd at h
  have := cov_len (s.2.toNat + 1 - s.1.toNat) s.1.toNat s.2.toNat (Nat.le_refl _)
  unfold covS
  omega
theorem covL_len (L : List Spn) (h : ∀ s ∈ L, Bnd s) : ((covL L).length : Int) ≤ sizeL L := by
  induction L with
  | nil => simp [covL, sizeL]
  | cons s L ih =>
    have h1 := ih (fun t ht => h t (by simp [ht]))
    have h2 := covS_len s (h s (by simp))
    simp only [covL, List.flatMap_cons, List.length_append, sizeL] at *
    omega
end Go.Proofs.YtfjifedfenpbbaaDoor
