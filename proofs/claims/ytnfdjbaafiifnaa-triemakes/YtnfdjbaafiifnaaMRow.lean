/-
  Rows of trees: read again, what they say, their one form. No program. No condition.
-/
import Derived.Test.YtnfdjbaafiifnaaMke
namespace Go.Proofs.Ytnfdjbaafiifnaa

def zr (R : List Rw) : List RZ := R.map fun r => (((r.1.1 : Int), (r.1.2 : Int)), r.2)
theorem zr_append (R S : List Rw) : zr (R ++ S) = zr R ++ zr S := by simp [zr]
theorem zr_length (R : List Rw) : (zr R).length = R.length := by simp [zr]
/-- The head of a tree's rows. -/
theorem rows_head : ∀ (t : Tr) (a k : Nat), ∃ k' l R, t.rows a k = ((a, k'), l) :: R ∧ k ≤ k' ∧ (t.isLeaf = false → k < k')
  | .leaf l, a, k => ⟨k, l, [], rfl, Nat.le_refl _, fun h => by cases h⟩
  | .fork x y, a, k => by
    obtain ⟨k', l, R, h1, h2, _⟩ := rows_head x a (k + 1)
    exact ⟨k', l, R ++ y.rows (a + 2 ^ (31 - k)) (k + 1), by rw [Tr.rows, h1]; rfl, by omega, fun _ => by omega⟩
/-- What was told is read again. -/
theorem rdT_rows : ∀ (t : Tr) (a k d : Nat) (M : List RZ), t.nf → t.labs Lab → t.dep ≤ d → rdT d a k (zr (t.rows a k) ++ M) = some (t, M)
  | .leaf l, a, k, d, M, _, hl, _ => by
    have hl : Lab l := hl
    show rdT d a k ((((a : Int), (k : Int)), l) :: ([] ++ M)) = _
    unfold rdT
    rw [if_pos rfl, if_pos hl]
    rfl
  | .fork x y, a, k, 0, M, _, _, hd => by simp [Tr.dep] at hd
  | .fork x y, a, k, d + 1, M, hn, hl, hd => by
    have hx := rdT_rows x a (k + 1) d (zr (y.rows (a + 2 ^ (31 - k)) (k + 1)) ++ M) hn.1 hl.1 (by simp [Tr.dep] at hd; omega)
    have hy := rdT_rows y (a + 2 ^ (31 - k)) (k + 1) d M hn.2.1 hl.2 (by simp [Tr.dep] at hd; omega)
    have e : zr ((Tr.fork x y).rows a k) ++ M = zr (x.rows a (k + 1)) ++ (zr (y.rows (a + 2 ^ (31 - k)) (k + 1)) ++ M) := by rw [Tr.rows, zr_append, List.append_assoc]
    rw [e]
    obtain ⟨k', l, R, h1, h2, _⟩ := rows_head x a (k + 1)
    have e2 : zr (x.rows a (k + 1)) ++ (zr (y.rows (a + 2 ^ (31 - k)) (k + 1)) ++ M) = (((a : Int), (k' : Int)), l) :: (zr R ++ (zr (y.rows (a + 2 ^ (31 - k)) (k + 1)) ++ M)) := by rw [h1]; rfl
    rw [e2] at hx ⊢
    unfold rdT
    rw [if_neg (by simp; omega)]
    simp only [hx, hy]
    rcases jn_cases x y with ⟨l', rfl, rfl, _⟩ | ⟨_, hj⟩
    · exact absurd ⟨rfl, rfl⟩ (hn.2.2 l')
    · rw [hj]; rfl
/-- What is read was told. -/
theorem rdT_some : ∀ {d a k : Nat} {L M : List RZ} {t : Tr}, rdT d a k L = some (t, M) → L = zr (t.rows a k) ++ M ∧ t.nf ∧ t.labs Lab ∧ t.dep ≤ d
  | _, _, _, [], _, _, h => by simp [rdT] at h
  | 0, a, k, r :: L, M, t, h => by
    unfold rdT at h
    split at h
    · rename_i hr
      split at h
      · rename_i hl
        injection h with h; injection h with h1 h2; subst h1 h2
        exact ⟨by rw [show r = (((a : Int), (k : Int)), r.2) from Prod.ext hr rfl]; rfl, trivial, hl, Nat.zero_le _⟩
      · cases h
    · cases h
  | d + 1, a, k, r :: L, M, t, h => by
    unfold rdT at h
    split at h
    · rename_i hr
      split at h
      · rename_i hl
        injection h with h; injection h with h1 h2; subst h1 h2
        exact ⟨by rw [show r = (((a : Int), (k : Int)), r.2) from Prod.ext hr rfl]; rfl, trivial, hl, Nat.zero_le _⟩
      · cases h
    · simp only at h
      split at h
      · cases h
      · rename_i x L1 h1
        split at h
        · cases h
        · rename_i y L2 h2
          split at h
          · cases h
          · rename_i hj
            injection h with h; injection h with h3 h4; subst h3 h4
            obtain ⟨a1, a2, a3, a4⟩ := rdT_some h1
            obtain ⟨b1, b2, b3, b4⟩ := rdT_some h2
            rcases jn_cases x y with ⟨l', rfl, rfl, hjl⟩ | ⟨hne, hjf⟩
            · rw [hjl] at hj; exact absurd rfl hj
            · rw [hjf]
              refine ⟨?_, ⟨a2, b2, hne⟩, ⟨a3, b3⟩, by simp [Tr.dep]; omega⟩
              rw [a1, b1, Tr.rows, zr_append, List.append_assoc]
end Go.Proofs.Ytnfdjbaafiifnaa
