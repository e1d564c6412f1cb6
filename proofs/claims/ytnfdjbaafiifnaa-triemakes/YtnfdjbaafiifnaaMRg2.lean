/-
  Rows are right just if they are read to their end. No program. No condition.
-/
import Derived.Test.YtnfdjbaafiifnaaMRgt
namespace Go.Proofs.Ytnfdjbaafiifnaa

theorem ChR.adj : ∀ {R : List Rw} {a b i : Nat} {r s : Rw}, ChR a R b → R[i]? = some r → R[i + 1]? = some s → s.1.1 = r.1.1 + 2 ^ (32 - r.1.2)
  | [], _, _, i, _, _, _, h1, _ => by simp at h1
  | [x], _, _, i, _, _, _, _, h2 => by simp at h2
  | x :: y :: R, a, b, 0, r, s, h, h1, h2 => by
    simp at h1 h2
    subst h1 h2
    have e1 := h.1
    have e2 := h.2.1
    omega
  | x :: y :: R, a, b, i + 1, r, s, h, h1, h2 => ChR.adj (R := y :: R) (i := i) h.2 (by simpa using h1) (by simpa using h2)
theorem RtR.of : ∀ (R : List Rw) (a : Nat) (p : Option Rw), ChR a R 4294967296 → (∀ r ∈ R, Al r ∧ Lab r.2) → (∀ r R', R = r :: R' → ¬ Hlv p r) → (∀ i r s, R[i]? = some r → R[i + 1]? = some s → ¬ Hlv (some r) s) → RtR p a R
  | [], _, _, h, _, _, _ => h
  | r :: R, a, p, h, hal, hp, hadj => by
    obtain ⟨h1, h2⟩ := hal r List.mem_cons_self
    refine ⟨⟨h1, h2, h.1, hp r R rfl⟩, RtR.of R _ (some r) h.2 (fun s hs => hal s (List.mem_cons_of_mem _ hs)) (fun s R' he => ?_) (fun i x y hx hy => hadj (i + 1) x y (by simpa using hx) (by simpa using hy))⟩
    subst he
    exact hadj 0 r s rfl rfl
/-- A tree's rows are right. -/
theorem rows_right {t : Tr} (hn : t.nf) (hd : t.dep ≤ 32) (hl : t.labs Lab) : RtR none 0 (t.rows 0 0) := by
  have hch : ChR 0 (t.rows 0 0) 4294967296 := by simpa using rows_chain t 0 0 (by omega)
  have hal := rows_al t 0 0 (by omega) (by decide) (by decide)
  refine RtR.of _ _ _ hch (fun r hr => ⟨(hal r hr).1, rows_labs t 0 0 hl r hr⟩) (fun r R' _ ⟨s, h, _⟩ => by cases h) (fun i r s h1 h2 ⟨q, hq, h3, h4, h5, h6⟩ => ?_)
  injection hq with hq
  subst hq
  have e := hch.adj h1 h2
  have har := (hal r (List.mem_of_getElem? h1)).1
  refine rows_halves t 0 0 hn (by omega) (by decide) i r s h1 h2 h5 h4 (by omega) har.1 ?_
  have hp : 0 < 2 ^ (32 - r.1.2) := Nat.pow_pos (by decide)
  have hr32 := har.1
  rw [← h4, e] at h6
  obtain ⟨q, hq⟩ := Nat.dvd_of_mod_eq_zero har.2.2
  rw [hq, ← Nat.mul_succ, Nat.mul_div_cancel_left _ hp] at h6
  rw [show 32 - (r.1.2 - 1) = (32 - r.1.2) + 1 by omega, Nat.pow_succ, hq]
  obtain ⟨j, hj⟩ : ∃ j, q = 2 * j := ⟨q / 2, by have h6 : (q + 1) % 2 = 1 := h6; omega⟩
  rw [hj, ← Nat.mul_assoc]
  exact Nat.mul_mod_right _ _
/-- Right just if read. -/
theorem right_iff (L : List RZ) : (∃ R, L = zr R ∧ RtR none 0 R) ↔ ∃ t, rdT 32 0 0 L = some (t, []) := by
  constructor
  · rintro ⟨R, rfl, h⟩
    obtain ⟨t, R', q, h1, h2, _⟩ := rd_right 32 0 0 none R rfl (by decide) (by decide) h (fun _ _ _ => Nat.zero_le _)
    cases R' with
    | nil => exact ⟨t, h1⟩
    | cons s S =>
      obtain ⟨⟨hs, _, hsa, _⟩, _⟩ := h2
      have := hs.2.1
      have := Nat.pow_pos (n := 32 - s.1.2) (show 0 < 2 by decide)
      simp at hsa
      omega
  · rintro ⟨t, h⟩
    obtain ⟨h1, h2, h3, h4⟩ := rdT_some h
    rw [List.append_nil] at h1
    exact ⟨t.rows 0 0, h1, rows_right h2 h4 h3⟩
end Go.Proofs.Ytnfdjbaafiifnaa
