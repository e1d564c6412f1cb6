/-
  Rows that are right are a tree's, and the other way round. No program. No condition.
-/
import Derived.Test.YtnfdjbaafiifnaaMRow
import Derived.Test.YtnfdjbaafiifnaaMHal
namespace Go.Proofs.Ytnfdjbaafiifnaa

/-- Two neighbours that are the halves of one prefix, with one label. -/
def Hlv (p : Option Rw) (r : Rw) : Prop := ∃ s, p = some s ∧ 0 < r.1.2 ∧ s.1.2 = r.1.2 ∧ s.2 = r.2 ∧ r.1.1 / 2 ^ (32 - r.1.2) % 2 = 1
/-- Rows that are right, from an address on. -/
def RtR : Option Rw → Nat → List Rw → Prop
  | _, a, [] => a = 4294967296
  | p, a, r :: R => (Al r ∧ Lab r.2 ∧ r.1.1 = a ∧ ¬ Hlv p r) ∧ RtR (some r) (a + 2 ^ (32 - r.1.2)) R
theorem zr_inj : ∀ {R S : List Rw}, zr R = zr S → R = S
  | [], [], _ => rfl
  | [], s :: S, h => by simp [zr] at h
  | r :: R, [], h => by simp [zr] at h
  | r :: R, s :: S, h => by
    simp only [zr, List.map_cons, List.cons.injEq, Prod.mk.injEq] at h
    obtain ⟨⟨⟨h1, h2⟩, h3⟩, h4⟩ := h
    rw [zr_inj h4, show r = s from Prod.ext (Prod.ext (by omega) (by omega)) h3]
/-- Right rows are read. -/
theorem rd_right : ∀ (d a k : Nat) (p : Option Rw) (R : List Rw), k + d = 32 → a % 2 ^ d = 0 → a + 2 ^ d ≤ 4294967296 → RtR p a R → (∀ r R', R = r :: R' → k ≤ r.1.2) → ∃ t R' q, rdT d a k (zr R) = some (t, zr R') ∧ RtR (some q) (a + 2 ^ d) R' ∧ ∀ l, t = .leaf l → q = ((a, k), l)
  | d, a, k, p, [], _, _, ha, h, _ => by
    have h : a = 4294967296 := h
    have := Nat.pow_pos (n := d) (show 0 < 2 by decide)
    omega
  | d, a, k, p, r :: R, hd, hm, ha, h, hk => by
    obtain ⟨⟨hal, hlab, hra, hh⟩, hR⟩ := h
    have hkr := hk r R rfl
    obtain ⟨⟨ra, rk⟩, rl⟩ := r
    have hra : ra = a := hra
    subst hra
    by_cases e : rk = k
    · subst e
      refine ⟨.leaf rl, R, ((ra, rk), rl), ?_, ?_, fun l hl => by injection hl with hl; rw [hl]⟩
      · show rdT d ra rk ((((ra : Int), (rk : Int)), rl) :: zr R) = _
        unfold rdT
        rw [if_pos rfl, if_pos hlab]
      · rw [show d = 32 - rk by omega]
        exact hR
    · have hal1 : rk ≤ 32 := hal.1
      have hkr : k ≤ rk := hkr
      match d, hd, hm, ha with
      | 0, hd, hm, ha => omega
      | d + 1, hd, hm, ha =>
        have hp : 2 ^ (d + 1) = 2 ^ d * 2 := Nat.pow_succ ..
        have hpd : 0 < 2 ^ d := Nat.pow_pos (by decide)
        rw [hp] at ha
        have hm' : ra % 2 ^ d = 0 := by
          obtain ⟨q, hq⟩ := Nat.dvd_of_mod_eq_zero hm
          rw [hq, hp, Nat.mul_assoc]
          exact Nat.mul_mod_right _ _
        have hdk : 31 - k = d := by omega
        obtain ⟨x, R2, q2, h1, h2, h3⟩ := rd_right d ra (k + 1) p (((ra, rk), rl) :: R) (by omega) hm' (by omega) ⟨⟨hal, hlab, rfl, hh⟩, hR⟩ (fun r R' he => by injection he with he _; subst he; show k + 1 ≤ rk; omega)
        have hbits : ∀ s R', R2 = s :: R' → k + 1 ≤ s.1.2 := fun s R' he => by
          subst he
          obtain ⟨⟨sal, _, sa, _⟩, _⟩ := h2
          by_cases hc : k + 1 ≤ s.1.2
          · exact hc
          · exfalso
            have d1 : 2 ^ (32 - s.1.2) ∣ ra + 2 ^ d := by rw [← sa]; exact Nat.dvd_of_mod_eq_zero sal.2.2
            have d2 : 2 ^ (d + 1) ∣ ra + 2 ^ d := Nat.dvd_trans (by
              rw [show 2 ^ (32 - s.1.2) = 2 ^ (d + 1) * 2 ^ (32 - s.1.2 - (d + 1)) by rw [← Nat.pow_add]; congr 1; omega]
              exact Nat.dvd_mul_right _ _) d1
            have d3 := (Nat.dvd_add_iff_right (Nat.dvd_of_mod_eq_zero hm)).2 d2
            have := Nat.le_of_dvd hpd d3
            omega
        obtain ⟨y, R3, q3, g1, g2, g3⟩ := rd_right d (ra + 2 ^ d) (k + 1) (some q2) R2 (by omega) (by rw [Nat.add_mod_right]; exact hm') (by omega) h2 hbits
        have hrd : rdT (d + 1) ra k (zr (((ra, rk), rl) :: R)) = if (jn x y).isLeaf = true then none else some (jn x y, zr R3) := by
          have h1' : rdT d ra (k + 1) ((((ra : Int), (rk : Int)), rl) :: zr R) = some (x, zr R2) := h1
          show rdT (d + 1) ra k ((((ra : Int), (rk : Int)), rl) :: zr R) = _
          conv => lhs; unfold rdT
          rw [if_neg (by simp; omega)]
          simp only [h1', hdk, g1]
        rcases jn_cases x y with ⟨l, hx, hy, _⟩ | ⟨_, hj⟩
        · exfalso
          have hq2 := h3 l hx
          subst hx hy
          have hz := (rdT_some g1).1
          rw [← zr_append] at hz
          have hz := zr_inj hz
          rw [Tr.rows] at hz
          subst hz
          obtain ⟨⟨_, _, _, hno⟩, _⟩ := h2
          refine hno ⟨q2, rfl, by show 0 < k + 1; omega, by rw [hq2], by rw [hq2], ?_⟩
          show (ra + 2 ^ d) / 2 ^ (32 - (k + 1)) % 2 = 1
          rw [show 32 - (k + 1) = d by omega]
          obtain ⟨q, hq⟩ := Nat.dvd_of_mod_eq_zero hm
          rw [hq, hp, Nat.mul_assoc, ← Nat.mul_succ, Nat.mul_div_cancel_left _ hpd]
          omega
        · refine ⟨.fork x y, R3, q3, ?_, ?_, fun l hl => by cases hl⟩
          · rw [hrd, hj]; rfl
          · rw [hp, show ra + 2 ^ d * 2 = ra + 2 ^ d + 2 ^ d by omega]
            exact g2
end Go.Proofs.Ytnfdjbaafiifnaa
