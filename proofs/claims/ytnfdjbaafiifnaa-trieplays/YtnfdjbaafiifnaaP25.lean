/-
  A tree's rows follow one another, and no two of them are halves with one label. No program. No condition.
-/
import Derived.Test.YtnfdjbaafiifnaaP22
import Derived.Test.YtnfdjbaafiifnaaP18
namespace Go.Proofs.Ytnfdjbaafiifnaa

/-- Rows that leave nothing out, from a up to b. -/
def ChR : Nat → List Rw → Nat → Prop
  | a, [], b => a = b
  | a, r :: R, b => r.1.1 = a ∧ ChR (a + 2 ^ (32 - r.1.2)) R b
theorem ChR.append : ∀ {a b c : Nat} {R S : List Rw}, ChR a R b → ChR b S c → ChR a (R ++ S) c
  | a, b, c, [], S, h, h' => by have h : a = b := h; subst h; exact h'
  | a, b, c, r :: R, S, h, h' => ⟨h.1, h.2.append h'⟩
theorem rows_chain : ∀ (t : Tr) (a k : Nat), t.dep + k ≤ 32 → ChR a (t.rows a k) (a + 2 ^ (32 - k))
  | .leaf l, a, k, _ => ⟨rfl, rfl⟩
  | .fork x y, a, k, hd => by
    simp only [Tr.dep] at hd
    have hp : 2 ^ (32 - k) = 2 ^ (31 - k) + 2 ^ (31 - k) := by rw [show 32 - k = (31 - k) + 1 by omega, Nat.pow_succ]; omega
    have e : 32 - (k + 1) = 31 - k := by omega
    have h1 := rows_chain x a (k + 1) (by omega)
    have h2 := rows_chain y (a + 2 ^ (31 - k)) (k + 1) (by omega)
    rw [e] at h1 h2
    rw [Tr.rows, hp, ← Nat.add_assoc]
    exact h1.append h2
/-- The last one's end. -/
theorem ChR.end : ∀ {a b : Nat} {R : List Rw} {r : Rw}, ChR a (R ++ [r]) b → r.1.1 + 2 ^ (32 - r.1.2) = b
  | a, b, [], r, h => by have h1 : r.1.1 = a := h.1; have h2 : a + 2 ^ (32 - r.1.2) = b := h.2; omega
  | a, b, s :: R, r, h => ChR.end h.2
theorem rows_bits {t : Tr} {a k : Nat} (h : t.isLeaf = false) : ∀ r ∈ t.rows a k, k + 1 ≤ r.1.2 := by
  have key : ∀ (t : Tr) (a k : Nat), ∀ r ∈ t.rows a k, k ≤ r.1.2 := by
    intro t
    induction t with
    | leaf l => intro a k r hr; rw [Tr.rows, List.mem_singleton] at hr; subst hr; exact Nat.le_refl _
    | fork x y ih1 ih2 =>
      intro a k r hr
      rw [Tr.rows] at hr
      rcases List.mem_append.1 hr with h1 | h1
      · have := ih1 a (k + 1) r h1; omega
      · have := ih2 _ (k + 1) r h1; omega
  intro r hr
  cases t with
  | leaf l => cases h
  | fork x y =>
    rw [Tr.rows] at hr
    rcases List.mem_append.1 hr with h1 | h1
    · exact key x a (k + 1) r h1
    · exact key y _ (k + 1) r h1
/-- No two rows of one label are halves. -/
theorem rows_halves : ∀ (t : Tr) (a k : Nat), t.nf → t.dep + k ≤ 32 → a % 2 ^ (32 - k) = 0 → ∀ (i : Nat) (r s : Rw), (t.rows a k)[i]? = some r → (t.rows a k)[i + 1]? = some s → r.2 = s.2 → r.1.2 = s.1.2 → 0 < r.1.2 → r.1.2 ≤ 32 → r.1.1 % 2 ^ (32 - (r.1.2 - 1)) = 0 → False
  | .leaf l, a, k, _, _, _, i, r, s, h1, h2, _, _, _, _, _ => by
    simp [Tr.rows] at h2
  | .fork x y, a, k, hn, hd, hm, i, r, s, h1, h2, hl, hb, h0, h32, hz => by
    simp only [Tr.dep] at hd
    have hp : 2 ^ (32 - k) = 2 ^ (31 - k) * 2 := by rw [← Nat.pow_succ]; congr 1; omega
    have hm' : a % 2 ^ (31 - k) = 0 := by
      obtain ⟨q, hq⟩ := Nat.dvd_of_mod_eq_zero hm
      rw [hq, hp, Nat.mul_assoc]
      exact Nat.mul_mod_right _ _
    have e : 32 - (k + 1) = 31 - k := by omega
    rw [Tr.rows] at h1 h2
    by_cases c1 : i + 1 < (x.rows a (k + 1)).length
    · rw [List.getElem?_append_left (by omega)] at h1
      rw [List.getElem?_append_left c1] at h2
      exact rows_halves x a (k + 1) hn.1 (by omega) (by rw [e]; exact hm') i r s h1 h2 hl hb h0 h32 hz
    · by_cases c2 : (x.rows a (k + 1)).length ≤ i
      · rw [List.getElem?_append_right c2] at h1
        rw [List.getElem?_append_right (by omega), show i + 1 - (x.rows a (k + 1)).length = i - (x.rows a (k + 1)).length + 1 by omega] at h2
        exact rows_halves y (a + 2 ^ (31 - k)) (k + 1) hn.2.1 (by omega) (by rw [e, Nat.add_mod_right]; exact hm') _ r s h1 h2 hl hb h0 h32 hz
      · have hi : i + 1 = (x.rows a (k + 1)).length := by omega
        rw [List.getElem?_append_left (by omega)] at h1
        rw [List.getElem?_append_right (by omega), show i + 1 - (x.rows a (k + 1)).length = 0 by omega] at h2
        have hrm := List.mem_of_getElem? h1
        have hsm := List.mem_of_getElem? h2
        -- the end of the lower half
        have hch := rows_chain x a (k + 1) (by omega)
        rw [e] at hch
        have hX : x.rows a (k + 1) = (x.rows a (k + 1)).take i ++ [r] := by
          have hlt : i < (x.rows a (k + 1)).length := by omega
          rw [List.getElem?_eq_getElem hlt] at h1
          injection h1 with h1
          rw [← h1, ← List.take_succ_eq_append_getElem hlt, hi, List.take_length]
        rw [hX] at hch
        have hend := hch.end
        by_cases hk : r.1.2 = k + 1
        · have hx : x.isLeaf = true := by
            cases hh : x.isLeaf with
            | true => rfl
            | false => have := rows_bits hh r hrm; omega
          have hy : y.isLeaf = true := by
            cases hh : y.isLeaf with
            | true => rfl
            | false => have := rows_bits hh s hsm; omega
          cases x with
          | fork _ _ => cases hx
          | leaf lx =>
            cases y with
            | fork _ _ => cases hy
            | leaf ly =>
              rw [Tr.rows, List.mem_singleton] at hrm hsm
              subst hrm hsm
              have hl : lx = ly := hl
              subst hl
              exact hn.2.2 lx ⟨rfl, rfl⟩
        · have hkm : k + 2 ≤ r.1.2 := by
            have : k + 1 ≤ r.1.2 := by
              cases hh : x.isLeaf with
              | false => have := rows_bits hh r hrm; omega
              | true =>
                cases x with
                | fork _ _ => cases hh
                | leaf lx => rw [Tr.rows, List.mem_singleton] at hrm; subst hrm; exact Nat.le_refl _
            omega
          have e1 : 32 - (r.1.2 - 1) = (32 - r.1.2) + 1 := by omega
          have e2 : 31 - k = (32 - r.1.2) + 1 + (r.1.2 - 2 - k) := by omega
          rw [e1] at hz
          have hp2 : 0 < 2 ^ (32 - r.1.2) := Nat.pow_pos (by decide)
          have d1 : 2 ^ ((32 - r.1.2) + 1) ∣ r.1.1 := Nat.dvd_of_mod_eq_zero hz
          have d2 : 2 ^ ((32 - r.1.2) + 1) ∣ a + 2 ^ (31 - k) := by
            refine Nat.dvd_trans ?_ ((Nat.dvd_add_iff_left (Nat.dvd_refl _)).1 (Nat.dvd_of_mod_eq_zero hm'))
            rw [show 2 ^ (31 - k) = 2 ^ ((32 - r.1.2) + 1) * 2 ^ (r.1.2 - 2 - k) by rw [← Nat.pow_add, ← e2]]
            exact Nat.dvd_mul_right _ _
          rw [← hend] at d2
          have d3 := (Nat.dvd_add_iff_right d1).2 d2
          have := Nat.le_of_dvd hp2 d3
          rw [Nat.pow_succ] at this
          omega
end Go.Proofs.Ytnfdjbaafiifnaa
/-
  Rows that are right are a tree's, and the other way round. No program. No condition.
-/
namespace Go.Proofs.Ytnfdjbaafiifnaa

/-- Two neighbours that are the halves of one prefix, with one label. -/
def Hlv (p : Option Rw) (r : Rw) : Prop := ∃ s, p = some s ∧ 0 < r.1.2 ∧ s.1.2 = r.1.2 ∧ s.2 = r.2 ∧ r.1.1 / 2 ^ (32 - r.1.2) % 2 = 1
/-- Rows that are right, from an address on. -/
def RtR : Option Rw → Nat → List Rw → Prop
  | _, a, [] => a = 4294967296
  | p, a, r :: R => (Al r ∧ Lab r.2 ∧ r.1.1 = a ∧ ¬ Hlv p r) ∧ RtR (some r) (a + 2 ^ (32 - r.1.2)) R
theorem zr_inj : ∀ {R S : List Rw}, zr R = zr S → R = S
  | [], [], _ => rfl
  | [], s :: S, h => by simp [zr] at h
  | r :: R, [], h => by simp [zr] at h
  | r :: R, s :: S, h => by
    simp only [zr, List.map_cons, List.cons.injEq, Prod.mk.injEq] at h
    obtain ⟨⟨⟨h1, h2⟩, h3⟩, h4⟩ := h
    rw [zr_inj h4, show r = s from Prod.ext (Prod.ext (by omega) (by omega)) h3]
/-- Right rows are read. -/
theorem rd_right : ∀ (d a k : Nat) (p : Option Rw) (R : List Rw), k + d = 32 → a % 2 ^ d = 0 → a + 2 ^ d ≤ 4294967296 → RtR p a R → (∀ r R', R = r :: R' → k ≤ r.1.2) → ∃ t R' q, rdT d a k (zr R) = some (t, zr R') ∧ RtR (some q) (a + 2 ^ d) R' ∧ ∀ l, t = .leaf l → q = ((a, k), l)
  | d, a, k, p, [], _, _, ha, h, _ => by
    have h : a = 4294967296 := h
    have := Nat.pow_pos (n := d) (show 0 < 2 by decide)
    omega
  | d, a, k, p, r :: R, hd, hm, ha, h, hk => by
    obtain ⟨⟨hal, hlab, hra, hh⟩, hR⟩ := h
    have hkr := hk r R rfl
    obtain ⟨⟨ra, rk⟩, rl⟩ := r
    have hra : ra = a := hra
    subst hra
    by_cases e : rk = k
    · subst e
      refine ⟨.leaf rl, R, ((ra, rk), rl), ?_, ?_, fun l hl => by injection hl with hl; rw [hl]⟩
      · show rdT d ra rk ((((ra : Int), (rk : Int)), rl) :: zr R) = _
        unfold rdT
        rw [if_pos rfl, if_pos hlab]
      · rw [show d = 32 - rk by omega]
        exact hR
    · have hal1 : rk ≤ 32 := hal.1
      have hkr : k ≤ rk := hkr
      match d, hd, hm, ha with
      | 0, hd, hm, ha => omega
      | d + 1, hd, hm, ha =>
        have hp : 2 ^ (d + 1) = 2 ^ d * 2 := Nat.pow_succ ..
        have hpd : 0 < 2 ^ d := Nat.pow_pos (by decide)
        rw [hp] at ha
        have hm' : ra % 2 ^ d = 0 := by
          obtain ⟨q, hq⟩ := Nat.dvd_of_mod_eq_zero hm
          rw [hq, hp, Nat.mul_assoc]
          exact Nat.mul_mod_right _ _
        have hdk : 31 - k = d := by omega
        obtain ⟨x, R2, q2, h1, h2, h3⟩ := rd_right d ra (k + 1) p (((ra, rk), rl) :: R) (by omega) hm' (by omega) ⟨⟨hal, hlab, rfl, hh⟩, hR⟩ (fun r R' he => by injection he with he _; subst he; show k + 1 ≤ rk; omega)
        have hbits : ∀ s R', R2 = s :: R' → k + 1 ≤ s.1.2 := fun s R' he => by
          subst he
          obtain ⟨⟨sal, _, sa, _⟩, _⟩ := h2
          by_cases hc : k + 1 ≤ s.1.2
          · exact hc
          · exfalso
            have d1 : 2 ^ (32 - s.1.2) ∣ ra + 2 ^ d := by rw [← sa]; exact Nat.dvd_of_mod_eq_zero sal.2.2
            have d2 : 2 ^ (d + 1) ∣ ra + 2 ^ d := Nat.dvd_trans (by
              rw [show 2 ^ (32 - s.1.2) = 2 ^ (d + 1) * 2 ^ (32 - s.1.2 - (d + 1)) by rw [← Nat.pow_add]; congr 1; omega]
              exact Nat.dvd_mul_right _ _) d1
            have d3 := (Nat.dvd_add_iff_right (Nat.dvd_of_mod_eq_zero hm)).2 d2
            have := Nat.le_of_dvd hpd d3
            omega
        obtain ⟨y, R3, q3, g1, g2, g3⟩ := rd_right d (ra + 2 ^ d) (k + 1) (some q2) R2 (by omega) (by rw [Nat.add_mod_right]; exact hm') (by omega) h2 hbits
        have hrd : rdT (d + 1) ra k (zr (((ra, rk), rl) :: R)) = if (jn x y).isLeaf = true then none else some (jn x y, zr R3) := by
          have h1' : rdT d ra (k + 1) ((((ra : Int), (rk : Int)), rl) :: zr R) = some (x, zr R2) := h1
          show rdT (d + 1) ra k ((((ra : Int), (rk : Int)), rl) :: zr R) = _
          conv => lhs; unfold rdT
          rw [if_neg (by simp; omega)]
          simp only [h1', hdk, g1]
        rcases jn_cases x y with ⟨l, hx, hy, _⟩ | ⟨_, hj⟩
        · exfalso
          have hq2 := h3 l hx
          subst hx hy
          have hz := (rdT_some g1).1
          rw [← zr_append] at hz
          have hz := zr_inj hz
          rw [Tr.rows] at hz
          subst hz
          obtain ⟨⟨_, _, _, hno⟩, _⟩ := h2
          refine hno ⟨q2, rfl, by show 0 < k + 1; omega, by rw [hq2], by rw [hq2], ?_⟩
          show (ra + 2 ^ d) / 2 ^ (32 - (k + 1)) % 2 = 1
          rw [show 32 - (k + 1) = d by omega]
          obtain ⟨q, hq⟩ := Nat.dvd_of_mod_eq_zero hm
          rw [hq, hp, Nat.mul_assoc, ← Nat.mul_succ, Nat.mul_div_cancel_left _ hpd]
          omega
        · refine ⟨.fork x y, R3, q3, ?_, ?_, fun l hl => by cases hl⟩
          · rw [hrd, hj]; rfl
          · rw [hp, show ra + 2 ^ d * 2 = ra + 2 ^ d + 2 ^ d by omega]
            exact g2
end Go.Proofs.Ytnfdjbaafiifnaa
/-
  Rows are right just if they are read to their end. No program. No condition.
-/
namespace Go.Proofs.Ytnfdjbaafiifnaa

theorem ChR.adj : ∀ {R : List Rw} {a b i : Nat} {r s : Rw}, ChR a R b → R[i]? = some r → R[i + 1]? = some s → s.1.1 = r.1.1 + 2 ^ (32 - r.1.2)
  | [], _, _, i, _, _, _, h1, _ => by simp at h1
  | [x], _, _, i, _, _, _, _, h2 => by simp at h2
  | x :: y :: R, a, b, 0, r, s, h, h1, h2 => by
    simp at h1 h2
    subst h1 h2
    have e1 := h.1
    have e2 := h.2.1
    omega
  | x :: y :: R, a, b, i + 1, r, s, h, h1, h2 => ChR.adj (R := y :: R) (i := i) h.2 (by simpa using h1) (by simpa using h2)
theorem RtR.of : ∀ (R : List Rw) (a : Nat) (p : Option Rw), ChR a R 4294967296 → (∀ r ∈ R, Al r ∧ Lab r.2) → (∀ r R', R = r :: R' → ¬ Hlv p r) → (∀ i r s, R[i]? = some r → R[i + 1]? = some s → ¬ Hlv (some r) s) → RtR p a R
  | [], _, _, h, _, _, _ => h
  | r :: R, a, p, h, hal, hp, hadj => by
    obtain ⟨h1, h2⟩ := hal r List.mem_cons_self
    refine ⟨⟨h1, h2, h.1, hp r R rfl⟩, RtR.of R _ (some r) h.2 (fun s hs => hal s (List.mem_cons_of_mem _ hs)) (fun s R' he => ?_) (fun i x y hx hy => hadj (i + 1) x y (by simpa using hx) (by simpa using hy))⟩
    subst he
    exact hadj 0 r s rfl rfl
/-- A tree's rows are right. -/
theorem rows_right {t : Tr} (hn : t.nf) (hd : t.dep ≤ 32) (hl : t.labs Lab) : RtR none 0 (t.rows 0 0) := by
  have hch : ChR 0 (t.rows 0 0) 4294967296 := by simpa using rows_chain t 0 0 (by omega)
  have hal := rows_al t 0 0 (by omega) (by decide) (by decide)
  refine RtR.of _ _ _ hch (fun r hr => ⟨(hal r hr).1, rows_labs t 0 0 hl r hr⟩) (fun r R' _ ⟨s, h, _⟩ => by cases h) (fun i r s h1 h2 ⟨q, hq, h3, h4, h5, h6⟩ => ?_)
  injection hq with hq
  subst hq
  have e := hch.adj h1 h2
  have har := (hal r (List.mem_of_getElem? h1)).1
  refine rows_halves t 0 0 hn (by omega) (by decide) i r s h1 h2 h5 h4 (by omega) har.1 ?_
  have hp : 0 < 2 ^ (32 - r.1.2) := Nat.pow_pos (by decide)
  have hr32 := har.1
  rw [← h4, e] at h6
  obtain ⟨q, hq⟩ := Nat.dvd_of_mod_eq_zero har.2.2
  rw [hq, ← Nat.mul_succ, Nat.mul_div_cancel_left _ hp] at h6
  rw [show 32 - (r.1.2 - 1) = (32 - r.1.2) + 1 by omega, Nat.pow_succ, hq]
  obtain ⟨j, hj⟩ : ∃ j, q = 2 * j := ⟨q / 2, by have h6 : (q + 1) % 2 = 1 := h6; omega⟩
  rw [hj, ← Nat.mul_assoc]
  exact Nat.mul_mod_right _ _
/-- Right just if read. -/
theorem right_iff (L : List RZ) : (∃ R, L = zr R ∧ RtR none 0 R) ↔ ∃ t, rdT 32 0 0 L = some (t, []) := by
  constructor
  · rintro ⟨R, rfl, h⟩
    obtain ⟨t, R', q, h1, h2, _⟩ := rd_right 32 0 0 none R rfl (by decide) (by decide) h (fun _ _ _ => Nat.zero_le _)
    cases R' with
    | nil => exact ⟨t, h1⟩
    | cons s S =>
      obtain ⟨⟨hs, _, hsa, _⟩, _⟩ := h2
      have := hs.2.1
      have := Nat.pow_pos (n := 32 - s.1.2) (show 0 < 2 by decide)
      simp at hsa
      omega
  · rintro ⟨t, h⟩
    obtain ⟨h1, h2, h3, h4⟩ := rdT_some h
    rw [List.append_nil] at h1
    exact ⟨t.rows 0 0, h1, rows_right h2 h4 h3⟩
end Go.Proofs.Ytnfdjbaafiifnaa
