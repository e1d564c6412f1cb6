/-
  What rows say of words; putting many; the one form again. No program. No condition.
-/
import Derived.Test.YtnfdjbaafiifnaaP02
namespace Go.Proofs.Ytnfdjbaafiifnaa

/-- A prefix that is right. -/
def Al (r : Rw) : Prop := r.1.2 ≤ 32 ∧ r.1.1 + 2 ^ (32 - r.1.2) ≤ 4294967296 ∧ r.1.1 % 2 ^ (32 - r.1.2) = 0
def inP (r : Rw) (x : Nat) : Prop := r.1.1 ≤ x ∧ x < r.1.1 + 2 ^ (32 - r.1.2)
instance (r : Rw) (x : Nat) : Decidable (inP r x) := inferInstanceAs (Decidable (_ ∧ _))
theorem top_in {a x s : Nat} (hs : 0 < s) (ha : a % s = 0) : x / s = a / s ↔ a ≤ x ∧ x < a + s := by
  obtain ⟨q, rfl⟩ := Nat.dvd_of_mod_eq_zero ha
  rw [Nat.mul_div_cancel_left _ hs, Nat.div_eq_iff hs]
  rw [Nat.mul_comm]
  omega
theorem put_in {t : Tr} {r : Rw} {l : Int} {y : Nat} (hr : Al r) (hy : y < 4294967296) : (t.put r.1.1 r.1.2 l).at y = if inP r y then l else t.at y := by
  obtain ⟨h1, h2, h3⟩ := hr
  have hp : 0 < 2 ^ (32 - r.1.2) := Nat.pow_pos (by decide)
  rw [put_at r.1.2 t r.1.1 y h1 (by omega) hy]
  by_cases h : inP r y
  · rw [if_pos ((top_in hp h3).2 h), if_pos h]
  · rw [if_neg (fun e => h ((top_in hp h3).1 e)), if_neg h]
def putAll (t : Tr) (R : List Rw) : Tr := R.foldl (fun t r => t.put r.1.1 r.1.2 r.2) t
theorem putAll_snoc (t : Tr) (R : List Rw) (r : Rw) : putAll t (R ++ [r]) = (putAll t R).put r.1.1 r.1.2 r.2 := by simp [putAll]
theorem putAll_nf : ∀ (R : List Rw) (t : Tr), t.nf → (putAll t R).nf
  | [], _, h => h
  | r :: R, t, h => putAll_nf R (t.put r.1.1 r.1.2 r.2) (put_nf _ _ _ h)
theorem putAll_dep : ∀ (R : List Rw) (t : Tr), (∀ r ∈ R, r.1.2 ≤ 32) → t.dep ≤ 32 → (putAll t R).dep ≤ 32
  | [], _, _, h => h
  | r :: R, t, hR, h => putAll_dep R (t.put r.1.1 r.1.2 r.2) (fun s hs => hR s (List.mem_cons_of_mem _ hs)) (put_dep 32 _ _ _ h (hR r List.mem_cons_self))
theorem putAll_labs {p : Int → Prop} : ∀ (R : List Rw) (t : Tr), (∀ r ∈ R, p r.2) → t.labs p → (putAll t R).labs p
  | [], _, _, h => h
  | r :: R, t, hR, h => putAll_labs R (t.put r.1.1 r.1.2 r.2) (fun s hs => hR s (List.mem_cons_of_mem _ hs)) (put_labs (hR r List.mem_cons_self) _ _ _ h)
/-- The last one that has a word. -/
def lastZ (R : List Rw) (c : Int) (x : Nat) : Int := R.foldl (fun c r => if inP r x then r.2 else c) c
theorem putAll_at : ∀ (R : List Rw) (t : Tr) (y : Nat), (∀ r ∈ R, Al r) → y < 4294967296 → (putAll t R).at y = lastZ R (t.at y) y
  | [], _, _, _, _ => rfl
  | r :: R, t, y, hR, hy => by
    have := putAll_at R (t.put r.1.1 r.1.2 r.2) y (fun s hs => hR s (List.mem_cons_of_mem _ hs)) hy
    rw [put_in (hR r List.mem_cons_self) hy] at this
    exact this
theorem lastZ_same {c d : Int} {x : Nat} : ∀ (R : List Rw), (∀ r ∈ R, inP r x → r.2 = c) → ((∃ r ∈ R, inP r x) ∨ d = c) → lastZ R d x = c
  | [], _, h => by
    rcases h with ⟨r, hr, _⟩ | h
    · cases hr
    · exact h
  | r :: R, hR, h => by
    show lastZ R (if inP r x then r.2 else d) x = c
    refine lastZ_same R (fun s hs => hR s (List.mem_cons_of_mem _ hs)) ?_
    by_cases hr : inP r x
    · right; rw [if_pos hr]; exact hR r List.mem_cons_self hr
    · rw [if_neg hr]
      rcases h with ⟨s, hs, h1⟩ | h
      · rcases List.mem_cons.1 hs with rfl | hs
        · exact absurd h1 hr
        · exact .inl ⟨s, hs, h1⟩
      · exact .inr h
/-- Where the rows of a prefix lie. -/
theorem rows_al : ∀ (t : Tr) (a k : Nat), t.dep + k ≤ 32 → a + 2 ^ (32 - k) ≤ 4294967296 → a % 2 ^ (32 - k) = 0 → ∀ r ∈ t.rows a k, Al r ∧ a ≤ r.1.1 ∧ r.1.1 + 2 ^ (32 - r.1.2) ≤ a + 2 ^ (32 - k) ∧ k ≤ r.1.2
  | .leaf l, a, k, hd, ha, hm, r, hr => by
    rw [Tr.rows, List.mem_singleton] at hr
    subst hr
    simp only [Tr.dep] at hd
    exact ⟨⟨show k ≤ 32 by omega, ha, hm⟩, Nat.le_refl _, Nat.le_refl _, Nat.le_refl _⟩
  | .fork x y, a, k, hd, ha, hm, r, hr => by
    simp only [Tr.dep] at hd
    have hp : 2 ^ (32 - k) = 2 ^ (31 - k) * 2 := by rw [← Nat.pow_succ]; congr 1; omega
    have hm' : a % 2 ^ (31 - k) = 0 := by
      obtain ⟨q, hq⟩ := Nat.dvd_of_mod_eq_zero hm
      rw [hq, hp, Nat.mul_assoc]
      exact Nat.mul_mod_right _ _
    have e : 32 - (k + 1) = 31 - k := by omega
    rw [Tr.rows] at hr
    rcases List.mem_append.1 hr with h | h
    · obtain ⟨h1, h2, h3, h4⟩ := rows_al x a (k + 1) (by omega) (by rw [e]; omega) (by rw [e]; exact hm') r h
      rw [e] at h3
      exact ⟨h1, h2, by omega, by omega⟩
    · obtain ⟨h1, h2, h3, h4⟩ := rows_al y (a + 2 ^ (31 - k)) (k + 1) (by omega) (by rw [e]; omega) (by rw [e, Nat.add_mod_right]; exact hm') r h
      rw [e] at h3
      exact ⟨h1, by omega, by omega, by omega⟩
/-- The word as it is seen k bits down. -/
def dn (x k : Nat) : Nat := x * 2 ^ k % 4294967296
theorem dn_zero (x : Nat) (h : x < 4294967296) : dn x 0 = x := by unfold dn; rw [Nat.pow_zero, Nat.mul_one]; exact Nat.mod_eq_of_lt h
theorem dn_succ (x k : Nat) : dn x (k + 1) = sh (dn x k) := by
  unfold dn sh
  rw [Nat.pow_succ, ← Nat.mul_assoc, Nat.mod_mul_mod]
/-- Which half of a prefix. -/
theorem dn_high {a x k : Nat} (hk : k ≤ 31) (hm : a % 2 ^ (32 - k) = 0) (h1 : a ≤ x) (h2 : x < a + 2 ^ (32 - k)) : 2147483648 ≤ dn x k ↔ a + 2 ^ (31 - k) ≤ x := by
  have hp : 2 ^ (32 - k) = 2 ^ (31 - k) * 2 := by rw [← Nat.pow_succ]; congr 1; omega
  have e3 : 2 ^ (32 - k) * 2 ^ k = 4294967296 := by rw [← Nat.pow_add, show 32 - k + k = 32 by omega]
  have e4 : 2 ^ (31 - k) * 2 ^ k = 2147483648 := by rw [← Nat.pow_add, show 31 - k + k = 31 by omega]
  obtain ⟨q, rfl⟩ := Nat.dvd_of_mod_eq_zero hm
  obtain ⟨d, rfl⟩ : ∃ d, x = 2 ^ (32 - k) * q + d := ⟨x - 2 ^ (32 - k) * q, by omega⟩
  have hd : d < 2 ^ (32 - k) := by omega
  have hk0 : 0 < 2 ^ k := Nat.pow_pos (by decide)
  have e5 : dn (2 ^ (32 - k) * q + d) k = d * 2 ^ k := by
    unfold dn
    rw [Nat.add_mul, Nat.mul_right_comm, e3, Nat.mul_add_mod, Nat.mod_eq_of_lt]
    rw [← e3]
    exact Nat.mul_lt_mul_of_pos_right hd hk0
  rw [e5, ← e4]
  constructor
  · intro h
    have := Nat.le_of_mul_le_mul_right h hk0
    omega
  · intro h
    exact Nat.mul_le_mul_right _ (by omega)
/-- Each row says its label. -/
theorem rows_at : ∀ (t : Tr) (a k : Nat), t.dep + k ≤ 32 → a + 2 ^ (32 - k) ≤ 4294967296 → a % 2 ^ (32 - k) = 0 → ∀ r ∈ t.rows a k, ∀ x, inP r x → t.at (dn x k) = r.2
  | .leaf l, a, k, _, _, _, r, hr, x, _ => by
    rw [Tr.rows, List.mem_singleton] at hr
    subst hr
    rfl
  | .fork u v, a, k, hd, ha, hm, r, hr, x, hx => by
    simp only [Tr.dep] at hd
    have hp : 2 ^ (32 - k) = 2 ^ (31 - k) * 2 := by rw [← Nat.pow_succ]; congr 1; omega
    have hm' : a % 2 ^ (31 - k) = 0 := by
      obtain ⟨q, hq⟩ := Nat.dvd_of_mod_eq_zero hm
      rw [hq, hp, Nat.mul_assoc]
      exact Nat.mul_mod_right _ _
    have e : 32 - (k + 1) = 31 - k := by omega
    rw [Tr.rows] at hr
    rcases List.mem_append.1 hr with h | h
    · obtain ⟨_, h2, h3, _⟩ := rows_al u a (k + 1) (by omega) (by rw [e]; omega) (by rw [e]; exact hm') r h
      have h4 := rows_at u a (k + 1) (by omega) (by rw [e]; omega) (by rw [e]; exact hm') r h x hx
      obtain ⟨h5, h6⟩ := hx
      rw [e] at h3
      have := dn_high (a := a) (x := x) (k := k) (by omega) hm (by omega) (by omega)
      rw [show (Tr.fork u v).at (dn x k) = if 2147483648 ≤ dn x k then v.at (sh (dn x k)) else u.at (sh (dn x k)) from rfl, if_neg (by rw [this]; omega), ← dn_succ]
      exact h4
    · obtain ⟨_, h2, h3, _⟩ := rows_al v (a + 2 ^ (31 - k)) (k + 1) (by omega) (by rw [e]; omega) (by rw [e, Nat.add_mod_right]; exact hm') r h
      have h4 := rows_at v (a + 2 ^ (31 - k)) (k + 1) (by omega) (by rw [e]; omega) (by rw [e, Nat.add_mod_right]; exact hm') r h x hx
      obtain ⟨h5, h6⟩ := hx
      rw [e] at h3
      have := dn_high (a := a) (x := x) (k := k) (by omega) hm (by omega) (by omega)
      rw [show (Tr.fork u v).at (dn x k) = if 2147483648 ≤ dn x k then v.at (sh (dn x k)) else u.at (sh (dn x k)) from rfl, if_pos (by rw [this]; omega), ← dn_succ]
      exact h4
theorem rows_cover : ∀ (t : Tr) (a k x : Nat), t.dep + k ≤ 32 → a ≤ x → x < a + 2 ^ (32 - k) → ∃ r ∈ t.rows a k, inP r x
  | .leaf l, a, k, x, _, h1, h2 => ⟨((a, k), l), by simp [Tr.rows], h1, h2⟩
  | .fork u v, a, k, x, hd, h1, h2 => by
    simp only [Tr.dep] at hd
    have hp : 2 ^ (32 - k) = 2 ^ (31 - k) * 2 := by rw [← Nat.pow_succ]; congr 1; omega
    have e : 32 - (k + 1) = 31 - k := by omega
    rw [Tr.rows]
    by_cases h : x < a + 2 ^ (31 - k)
    · obtain ⟨r, hr, h3⟩ := rows_cover u a (k + 1) x (by omega) h1 (by rw [e]; exact h)
      exact ⟨r, List.mem_append_left _ hr, h3⟩
    · obtain ⟨r, hr, h3⟩ := rows_cover v (a + 2 ^ (31 - k)) (k + 1) x (by omega) (by omega) (by rw [e]; omega)
      exact ⟨r, List.mem_append_right _ hr, h3⟩
theorem rows_labs {p : Int → Prop} : ∀ (t : Tr) (a k : Nat), t.labs p → ∀ r ∈ t.rows a k, p r.2
  | .leaf _, a, k, h, r, hr => by
    rw [Tr.rows, List.mem_singleton] at hr
    subst hr
    exact h
  | .fork u v, a, k, h, r, hr => by
    rw [Tr.rows] at hr
    rcases List.mem_append.1 hr with h1 | h1
    · exact rows_labs u a (k + 1) h.1 r h1
    · exact rows_labs v _ (k + 1) h.2 r h1
/-- Two trees that say the same of each word. -/
theorem nf_at {t u : Tr} (ht : t.nf) (hu : u.nf) (hd : t.dep ≤ 32) (hd' : u.dep ≤ 32) (h : ∀ x, x < 4294967296 → t.at x = u.at x) : t = u := nf_one 32 t u ht hu hd hd' (Nat.le_refl _) (fun x hx _ => h x hx)
/-- A tree's rows, put in whatever order on whatever. -/
theorem putAll_rows {t v : Tr} {R : List Rw} (ht : t.nf) (hd : t.dep ≤ 32) (hv : v.nf) (hvd : v.dep ≤ 32) (hR : ∀ r, r ∈ R ↔ r ∈ t.rows 0 0) : putAll v R = t := by
  have hal := rows_al t 0 0 (by omega) (by decide) (by decide)
  have hR1 : ∀ r ∈ R, Al r := fun r hr => (hal r ((hR r).1 hr)).1
  refine nf_at (putAll_nf R v hv) ht (putAll_dep R v (fun r hr => (hR1 r hr).1) hvd) hd fun x hx => ?_
  rw [putAll_at R v x hR1 hx]
  refine lastZ_same R (fun r hr h => ?_) (.inl ?_)
  · have := rows_at t 0 0 (by omega) (by decide) (by decide) r ((hR r).1 hr) x h
    rw [dn_zero x hx] at this
    exact this.symm
  · obtain ⟨r, hr, h⟩ := rows_cover t 0 0 x (by omega) (Nat.zero_le _) (by simpa using hx)
    exact ⟨r, (hR r).2 hr, h⟩
end Go.Proofs.Ytnfdjbaafiifnaa
