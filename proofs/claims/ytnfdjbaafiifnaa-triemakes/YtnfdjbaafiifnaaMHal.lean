/-
  A tree's rows follow one another, and no two of them are halves with one label. No program. No condition.
-/
import Derived.Test.YtnfdjbaafiifnaaMSay
namespace Go.Proofs.Ytnfdjbaafiifnaa

/-- Rows that leave nothing out, from a up to b. -/
def ChR : Nat → List Rw → Nat → Prop
  | a, [], b => a = b
  | a, r :: R, b => r.1.1 = a ∧ ChR (a + 2 ^ (32 - r.1.2)) R b
theorem ChR.append : ∀ {a b c : Nat} {R S : List Rw}, ChR a R b → ChR b S c → ChR a (R ++ S) c
  | a, b, c, [], S, h, h' => by have h : a = b := h; subst h; exact h'
  | a, b, c, r :: R, S, h, h' => ⟨h.1, h.2.append h'⟩
theorem rows_chain : ∀ (t : Tr) (a k : Nat), t.dep + k ≤ 32 → ChR a (t.rows a k) (a + 2 ^ (32 - k))
  | .leaf l, a, k, _ => ⟨rfl, rfl⟩
  | .fork x y, a, k, hd => by
    simp only [Tr.dep] at hd
    have hp : 2 ^ (32 - k) = 2 ^ (31 - k) + 2 ^ (31 - k) := by rw [show 32 - k = (31 - k) + 1 by omega, Nat.pow_succ]; omega
    have e : 32 - (k + 1) = 31 - k := by omega
    have h1 := rows_chain x a (k + 1) (by omega)
    have h2 := rows_chain y (a + 2 ^ (31 - k)) (k + 1) (by omega)
    rw [e] at h1 h2
    rw [Tr.rows, hp, ← Nat.add_assoc]
    exact h1.append h2
/-- The last one's end. -/
theorem ChR.end : ∀ {a b : Nat} {R : List Rw} {r : Rw}, ChR a (R ++ [r]) b → r.1.1 + 2 ^ (32 - r.1.2) = b
  | a, b, [], r, h => by have h1 : r.1.1 = a := h.1; have h2 : a + 2 ^ (32 - r.1.2) = b := h.2; omega
  | a, b, s :: R, r, h => ChR.end h.2
theorem rows_bits {t : Tr} {a k : Nat} (h : t.isLeaf = false) : ∀ r ∈ t.rows a k, k + 1 ≤ r.1.2 := by
  have key : ∀ (t : Tr) (a k : Nat), ∀ r ∈ t.rows a k, k ≤ r.1.2 := by
    intro t
    induction t with
    | leaf l => intro a k r hr; rw [Tr.rows, List.mem_singleton] at hr; subst hr; exact Nat.le_refl _
    | fork x y ih1 ih2 =>
      intro a k r hr
      rw [Tr.rows] at hr
      rcases List.mem_append.1 hr with h1 | h1
      · have := ih1 a (k + 1) r h1; omega
      · have := ih2 _ (k + 1) r h1; omega
  intro r hr
  cases t with
  | leaf l => cases h
  | fork x y =>
    rw [Tr.rows] at hr
    rcases List.mem_append.1 hr with h1 | h1
    · exact key x a (k + 1) r h1
    · exact key y _ (k + 1) r h1
/-- No two rows of one label are halves. -/
theorem rows_halves : ∀ (t : Tr) (a k : Nat), t.nf → t.dep + k ≤ 32 → a % 2 ^ (32 - k) = 0 → ∀ (i : Nat) (r s : Rw), (t.rows a k)[i]? = some r → (t.rows a k)[i + 1]? = some s → r.2 = s.2 → r.1.2 = s.1.2 → 0 < r.1.2 → r.1.2 ≤ 32 → r.1.1 % 2 ^ (32 - (r.1.2 - 1)) = 0 → False
  | .leaf l, a, k, _, _, _, i, r, s, h1, h2, _, _, _, _, _ => by
    simp [Tr.rows] at h2
  | .fork x y, a, k, hn, hd, hm, i, r, s, h1, h2, hl, hb, h0, h32, hz => by
    simp only [Tr.dep] at hd
    have hp : 2 ^ (32 - k) = 2 ^ (31 - k) * 2 := by rw [← Nat.pow_succ]; congr 1; omega
    have hm' : a % 2 ^ (31 - k) = 0 := by
      obtain ⟨q, hq⟩ := Nat.dvd_of_mod_eq_zero hm
      rw [hq, hp, Nat.mul_assoc]
      exact Nat.mul_mod_right _ _
    have e : 32 - (k + 1) = 31 - k := by omega
    rw [Tr.rows] at h1 h2
    by_cases c1 : i + 1 < (x.rows a (k + 1)).length
    · rw [List.getElem?_append_left (by omega)] at h1
      rw [List.getElem?_append_left c1] at h2
      exact rows_halves x a (k + 1) hn.1 (by omega) (by rw [e]; exact hm') i r s h1 h2 hl hb h0 h32 hz
    · by_cases c2 : (x.rows a (k + 1)).length ≤ i
      · rw [List.getElem?_append_right c2] at h1
        rw [List.getElem?_append_right (by omega), show i + 1 - (x.rows a (k + 1)).length = i - (x.rows a (k + 1)).length + 1 by omega] at h2
        exact rows_halves y (a + 2 ^ (31 - k)) (k + 1) hn.2.1 (by omega) (by rw [e, Nat.add_mod_right]; exact hm') _ r s h1 h2 hl hb h0 h32 hz
      · have hi : i + 1 = (x.rows a (k + 1)).length := by omega
        rw [List.getElem?_append_left (by omega)] at h1
        rw [List.getElem?_append_right (by omega), show i + 1 - (x.rows a (k + 1)).length = 0 by omega] at h2
        have hrm := List.mem_of_getElem? h1
        have hsm := List.mem_of_getElem? h2
        -- the end of the lower half
        have hch := rows_chain x a (k + 1) (by omega)
        rw [e] at hch
        have hX : x.rows a (k + 1) = (x.rows a (k + 1)).take i ++ [r] := by
          have hlt : i < (x.rows a (k + 1)).length := by omega
          rw [List.getElem?_eq_getElem hlt] at h1
          injection h1 with h1
          rw [← h1, ← List.take_succ_eq_append_getElem hlt, hi, List.take_length]
        rw [hX] at hch
        have hend := hch.end
        by_cases hk : r.1.2 = k + 1
        · have hx : x.isLeaf = true := by
            cases hh : x.isLeaf with
            | true => rfl
            | false => have := rows_bits hh r hrm; omega
          have hy : y.isLeaf = true := by
            cases hh : y.isLeaf with
            | true => rfl
            | false => have := rows_bits hh s hsm; omega
          cases x with
          | fork _ _ => cases hx
          | leaf lx =>
            cases y with
            | fork _ _ => cases hy
            | leaf ly =>
              rw [Tr.rows, List.mem_singleton] at hrm hsm
              subst hrm hsm
              have hl : lx = ly := hl
              subst hl
              exact hn.2.2 lx ⟨rfl, rfl⟩
        · have hkm : k + 2 ≤ r.1.2 := by
            have : k + 1 ≤ r.1.2 := by
              cases hh : x.isLeaf with
              | false => have := rows_bits hh r hrm; omega
              | true =>
                cases x with
                | fork _ _ => cases hh
                | leaf lx => rw [Tr.rows, List.mem_singleton] at hrm; subst hrm; exact Nat.le_refl _
            omega
          have e1 : 32 - (r.1.2 - 1) = (32 - r.1.2) + 1 := by omega
          have e2 : 31 - k = (32 - r.1.2) + 1 + (r.1.2 - 2 - k) := by omega
          rw [e1] at hz
          have hp2 : 0 < 2 ^ (32 - r.1.2) := Nat.pow_pos (by decide)
          have d1 : 2 ^ ((32 - r.1.2) + 1) ∣ r.1.1 := Nat.dvd_of_mod_eq_zero hz
          have d2 : 2 ^ ((32 - r.1.2) + 1) ∣ a + 2 ^ (31 - k) := by
            refine Nat.dvd_trans ?_ ((Nat.dvd_add_iff_left (Nat.dvd_refl _)).1 (Nat.dvd_of_mod_eq_zero hm'))
            rw [show 2 ^ (31 - k) = 2 ^ ((32 - r.1.2) + 1) * 2 ^ (r.1.2 - 2 - k) by rw [← Nat.pow_add, ← e2]]
            exact Nat.dvd_mul_right _ _
          rw [← hend] at d2
          have d3 := (Nat.dvd_add_iff_right d1).2 d2
          have := Nat.le_of_dvd hp2 d3
          rw [Nat.pow_succ] at this
          omega
end Go.Proofs.Ytnfdjbaafiifnaa
