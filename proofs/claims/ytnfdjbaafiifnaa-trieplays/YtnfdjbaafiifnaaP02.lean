/-
  Tries as trees: what a tree says of a word, putting, other labels, rows; the one form of what it says. No program. No condition.
-/
import Derived.Test.YtnfdjbaafiifnaaP01
namespace Go.Proofs.Ytnfdjbaafiifnaa

inductive Tr where
  | leaf (l : Int)
  | fork (a b : Tr)
/-- The next word: the highest bit is shifted out. -/
def sh (x : Nat) : Nat := x * 2 % 4294967296
theorem sh_lt (x : Nat) : sh x < 4294967296 := Nat.mod_lt _ (by decide)
def Tr.dep : Tr → Nat
  | .leaf _ => 0
  | .fork a b => max a.dep b.dep + 1
def Tr.labs (p : Int → Prop) : Tr → Prop
  | .leaf l => p l
  | .fork a b => a.labs p ∧ b.labs p
def Tr.isLeaf : Tr → Bool
  | .leaf _ => true
  | .fork _ _ => false
def Tr.lab : Tr → Int
  | .leaf l => l
  | .fork _ _ => 0
def Tr.nf : Tr → Prop
  | .leaf _ => True
  | .fork a b => a.nf ∧ b.nf ∧ ∀ l, ¬ (a = .leaf l ∧ b = .leaf l)
def jn : Tr → Tr → Tr
  | .leaf x, .leaf y => if x = y then .leaf x else .fork (.leaf x) (.leaf y)
  | .leaf x, .fork c d => .fork (.leaf x) (.fork c d)
  | .fork a b, t => .fork (.fork a b) t
def Tr.lo : Tr → Tr
  | .leaf l => .leaf l
  | .fork a _ => a
def Tr.hi : Tr → Tr
  | .leaf l => .leaf l
  | .fork _ b => b
def Tr.at : Tr → Nat → Int
  | .leaf l, _ => l
  | .fork a b, x => if 2147483648 ≤ x then b.at (sh x) else a.at (sh x)
def Tr.put : Tr → Nat → Nat → Int → Tr
  | _, _, 0, l => .leaf l
  | t, x, k + 1, l => if 2147483648 ≤ x then jn t.lo (t.hi.put (sh x) k l) else jn (t.lo.put (sh x) k l) t.hi
def Tr.map (f : Int → Int) : Tr → Tr
  | .leaf l => .leaf (f l)
  | .fork a b => jn (a.map f) (b.map f)
/-- Rows of a prefix: address, bits, label. -/
abbrev Rw := (Nat × Nat) × Int
def Tr.rows : Tr → Nat → Nat → List Rw
  | .leaf l, a, k => [((a, k), l)]
  | .fork x y, a, k => x.rows a (k + 1) ++ y.rows (a + 2 ^ (31 - k)) (k + 1)

theorem jn_cases (a b : Tr) : (∃ l, a = .leaf l ∧ b = .leaf l ∧ jn a b = .leaf l) ∨ ((∀ l, ¬ (a = .leaf l ∧ b = .leaf l)) ∧ jn a b = .fork a b) := by
  cases a with
  | leaf x =>
    cases b with
    | leaf y =>
      by_cases h : x = y
      · subst h; exact .inl ⟨x, rfl, rfl, by simp [jn]⟩
      · exact .inr ⟨fun l ⟨h1, h2⟩ => (by cases h1; cases h2; exact h rfl), by simp [jn, h]⟩
    | fork c d => exact .inr ⟨fun l ⟨_, h2⟩ => (by cases h2), rfl⟩
  | fork c d => exact .inr ⟨fun l ⟨h1, _⟩ => (by cases h1), by simp [jn]⟩
theorem jn_at (a b : Tr) (x : Nat) : (jn a b).at x = if 2147483648 ≤ x then b.at (sh x) else a.at (sh x) := by
  rcases jn_cases a b with ⟨l, rfl, rfl, h⟩ | ⟨_, h⟩
  · rw [h]; simp [Tr.at]
  · rw [h]; rfl
theorem half_at (t : Tr) (x : Nat) : t.at x = if 2147483648 ≤ x then t.hi.at (sh x) else t.lo.at (sh x) := by
  cases t with
  | leaf l => simp [Tr.at, Tr.hi, Tr.lo]
  | fork a b => rfl
theorem jn_nf {a b : Tr} (ha : a.nf) (hb : b.nf) : (jn a b).nf := by
  rcases jn_cases a b with ⟨l, rfl, rfl, h⟩ | ⟨h0, h⟩
  · rw [h]; trivial
  · rw [h]; exact ⟨ha, hb, h0⟩
theorem jn_labs {p : Int → Prop} {a b : Tr} (ha : a.labs p) (hb : b.labs p) : (jn a b).labs p := by
  rcases jn_cases a b with ⟨l, rfl, rfl, h⟩ | ⟨h0, h⟩
  · rw [h]; exact ha
  · rw [h]; exact ⟨ha, hb⟩
theorem jn_dep {a b : Tr} {n : Nat} (ha : a.dep ≤ n) (hb : b.dep ≤ n) : (jn a b).dep ≤ n + 1 := by
  rcases jn_cases a b with ⟨l, rfl, rfl, h⟩ | ⟨h0, h⟩
  · rw [h]; simp [Tr.dep]
  · rw [h]; simp [Tr.dep]; omega
theorem Tr.lo_nf {t : Tr} (h : t.nf) : t.lo.nf := by cases t with | leaf l => trivial | fork a b => exact h.1
theorem Tr.hi_nf {t : Tr} (h : t.nf) : t.hi.nf := by cases t with | leaf l => trivial | fork a b => exact h.2.1
theorem Tr.lo_labs {p : Int → Prop} {t : Tr} (h : t.labs p) : t.lo.labs p := by cases t with | leaf l => exact h | fork a b => exact h.1
theorem Tr.hi_labs {p : Int → Prop} {t : Tr} (h : t.labs p) : t.hi.labs p := by cases t with | leaf l => exact h | fork a b => exact h.2
theorem Tr.lo_dep {t : Tr} {n : Nat} (h : t.dep ≤ n + 1) : t.lo.dep ≤ n := by cases t with | leaf l => simp [Tr.lo, Tr.dep] | fork a b => simp [Tr.lo, Tr.dep] at *; omega
theorem Tr.hi_dep {t : Tr} {n : Nat} (h : t.dep ≤ n + 1) : t.hi.dep ≤ n := by cases t with | leaf l => simp [Tr.hi, Tr.dep] | fork a b => simp [Tr.hi, Tr.dep] at *; omega
/-- What put does to the form. -/
theorem put_nf {l : Int} : ∀ (k : Nat) (t : Tr) (x : Nat), t.nf → (t.put x k l).nf
  | 0, _, _, _ => trivial
  | k + 1, t, x, h => by
    unfold Tr.put
    split
    · exact jn_nf (Tr.lo_nf h) (put_nf k _ _ (Tr.hi_nf h))
    · exact jn_nf (put_nf k _ _ (Tr.lo_nf h)) (Tr.hi_nf h)
theorem put_labs {p : Int → Prop} {l : Int} (hl : p l) : ∀ (k : Nat) (t : Tr) (x : Nat), t.labs p → (t.put x k l).labs p
  | 0, _, _, _ => hl
  | k + 1, t, x, h => by
    unfold Tr.put
    split
    · exact jn_labs (Tr.lo_labs h) (put_labs hl k _ _ (Tr.hi_labs h))
    · exact jn_labs (put_labs hl k _ _ (Tr.lo_labs h)) (Tr.hi_labs h)
theorem put_dep {l : Int} : ∀ (n k : Nat) (t : Tr) (x : Nat), t.dep ≤ n → k ≤ n → (t.put x k l).dep ≤ n
  | _, 0, _, _, _, _ => by simp [Tr.put, Tr.dep]
  | 0, k + 1, _, _, _, h => by omega
  | n + 1, k + 1, t, x, h, hk => by
    unfold Tr.put
    split
    · exact jn_dep (Tr.lo_dep h) (put_dep n k _ _ (Tr.hi_dep h) (by omega))
    · exact jn_dep (put_dep n k _ _ (Tr.lo_dep h) (by omega)) (Tr.hi_dep h)
/-- Two words begin with the same k + 1 bits. -/
theorem top_succ {x y k : Nat} (hx : x < 4294967296) (hy : y < 4294967296) (hk : k ≤ 31) : x / 2 ^ (31 - k) = y / 2 ^ (31 - k) ↔ ((2147483648 ≤ x ↔ 2147483648 ≤ y) ∧ sh x / 2 ^ (32 - k) = sh y / 2 ^ (32 - k)) := by
  have hp : 0 < 2 ^ (31 - k) := Nat.pow_pos (by decide)
  have e2 : 2 ^ (32 - k) = 2 ^ (31 - k) * 2 := by rw [← Nat.pow_succ]; congr 1; omega
  have e3 : 2 ^ k * 2 ^ (31 - k) = 2147483648 := by rw [← Nat.pow_add, show k + (31 - k) = 31 by omega]
  have key : ∀ z, z < 4294967296 → sh z / 2 ^ (32 - k) = (z % 2147483648) / 2 ^ (31 - k) := fun z hz => by
    unfold sh
    rw [e2, show z * 2 % 4294967296 = z % 2147483648 * 2 by omega, Nat.mul_div_mul_right _ _ (by decide)]
  have key2 : ∀ z, z < 4294967296 → z / 2 ^ (31 - k) = (z / 2147483648) * 2 ^ k + (z % 2147483648) / 2 ^ (31 - k) := fun z hz => by
    conv => lhs; rw [show z = z % 2147483648 + (z / 2147483648 * 2 ^ k) * 2 ^ (31 - k) by rw [Nat.mul_assoc, e3]; omega]
    rw [Nat.add_mul_div_right _ _ hp, Nat.add_comm]
  have key3 : ∀ z, (z % 2147483648) / 2 ^ (31 - k) < 2 ^ k := fun z => by
    rw [Nat.div_lt_iff_lt_mul hp, e3]; omega
  rw [key x hx, key y hy, key2 x hx, key2 y hy]
  have a1 := key3 x
  have a2 := key3 y
  have hk0 : 0 < 2 ^ k := Nat.pow_pos (by decide)
  have b1 : x / 2147483648 = 0 ∨ x / 2147483648 = 1 := by omega
  have b2 : y / 2147483648 = 0 ∨ y / 2147483648 = 1 := by omega
  generalize x % 2147483648 / 2 ^ (31 - k) = A at *
  generalize y % 2147483648 / 2 ^ (31 - k) = B at *
  generalize 2 ^ k = P at *
  clear key key2 key3 e2 e3 hp
  rcases b1 with b1 | b1 <;> rcases b2 with b2 | b2 <;> rw [b1, b2] <;> constructor <;> intro h
  all_goals (first | omega | (constructor <;> omega))
theorem put_at {l : Int} : ∀ (k : Nat) (t : Tr) (x y : Nat), k ≤ 32 → x < 4294967296 → y < 4294967296 → (t.put x k l).at y = if y / 2 ^ (32 - k) = x / 2 ^ (32 - k) then l else t.at y
  | 0, t, x, y, _, hx, hy => by
    have h1 : y / 2 ^ 32 = 0 := Nat.div_eq_of_lt hy
    have h2 : x / 2 ^ 32 = 0 := Nat.div_eq_of_lt hx
    simp [Tr.put, Tr.at, h1, h2]
  | k + 1, t, x, y, hk, hx, hy => by
    have ts := top_succ (k := k) hy hx (by omega)
    rw [show 32 - (k + 1) = 31 - k by omega]
    unfold Tr.put
    by_cases h : 2147483648 ≤ x
    · rw [if_pos h, jn_at, half_at t y, put_at k _ (sh x) (sh y) (by omega) (sh_lt _) (sh_lt _)]
      by_cases h2 : 2147483648 ≤ y
      · simp only [h2, if_true, ts, h, true_and]
      · simp [h2, ts, h]
    · rw [if_neg h, jn_at, half_at t y, put_at k _ (sh x) (sh y) (by omega) (sh_lt _) (sh_lt _)]
      by_cases h2 : 2147483648 ≤ y
      · simp [h2, ts, h]
      · simp only [h2, if_false, ts, h, true_and]
theorem map_nf (f : Int → Int) : ∀ t : Tr, (t.map f).nf
  | .leaf _ => trivial
  | .fork a b => jn_nf (map_nf f a) (map_nf f b)
theorem map_at (f : Int → Int) : ∀ (t : Tr) (x : Nat), (t.map f).at x = f (t.at x)
  | .leaf _, _ => rfl
  | .fork a b, x => by
    rw [Tr.map, jn_at, map_at f a, map_at f b, show (Tr.fork a b).at x = if 2147483648 ≤ x then b.at (sh x) else a.at (sh x) from rfl]
    split <;> rfl
theorem map_dep (f : Int → Int) : ∀ t : Tr, (t.map f).dep ≤ t.dep
  | .leaf _ => Nat.le_refl _
  | .fork a b => jn_dep (Nat.le_trans (map_dep f a) (Nat.le_max_left _ _)) (Nat.le_trans (map_dep f b) (Nat.le_max_right _ _))
theorem map_labs {p q : Int → Prop} {f : Int → Int} (h : ∀ l, p l → q (f l)) : ∀ t : Tr, t.labs p → (t.map f).labs q
  | .leaf _, ht => h _ ht
  | .fork a b, ht => jn_labs (map_labs h a ht.1) (map_labs h b ht.2)
/-- The one form. -/
theorem nf_one : ∀ (n : Nat) (t u : Tr), t.nf → u.nf → t.dep ≤ n → u.dep ≤ n → n ≤ 32 → (∀ x, x < 4294967296 → x % 2 ^ (32 - n) = 0 → t.at x = u.at x) → t = u
  | 0, .leaf l, .leaf m, _, _, _, _, _, h => by
    have := h 0 (by decide) (by simp)
    simp [Tr.at] at this
    rw [this]
  | 0, .fork a b, _, _, _, hd, _, _, _ => by simp [Tr.dep] at hd
  | 0, .leaf _, .fork a b, _, _, _, hd, _, _ => by simp [Tr.dep] at hd
  | n + 1, t, u, ht, hu, hdt, hdu, hn, h => by
    have hp : 0 < 2 ^ (31 - n) := Nat.pow_pos (by decide)
    have e2 : 2 ^ (32 - n) = 2 ^ (31 - n) * 2 := by rw [← Nat.pow_succ]; congr 1; omega
    have e3 : 2147483648 = 2 ^ n * 2 ^ (31 - n) := by rw [← Nat.pow_add, show n + (31 - n) = 31 by omega]
    have k1 : ∀ y, y < 4294967296 → y % 2 ^ (32 - n) = 0 → y / 2 < 2147483648 ∧ y / 2 % 2 ^ (31 - n) = 0 ∧ sh (y / 2) = y ∧ sh (y / 2 + 2147483648) = y := fun y hy h0 => by
      have hev : y % 2 = 0 := by
        rw [e2] at h0
        have : y % 2 = (y % (2 ^ (31 - n) * 2)) % 2 := by rw [Nat.mod_mul_left_mod]
        rw [this, h0]
      refine ⟨by omega, ?_, by unfold sh; omega, by unfold sh; omega⟩
      rw [e2] at h0
      obtain ⟨q, hq⟩ := Nat.dvd_of_mod_eq_zero h0
      rw [hq, show 2 ^ (31 - n) * 2 * q = 2 ^ (31 - n) * q * 2 by rw [Nat.mul_right_comm], Nat.mul_div_cancel _ (by decide)]
      exact Nat.mul_mod_right _ _
    have hlo : t.lo = u.lo := nf_one n _ _ (Tr.lo_nf ht) (Tr.lo_nf hu) (Tr.lo_dep hdt) (Tr.lo_dep hdu) (by omega) fun y hy h0 => by
      obtain ⟨a1, a2, a3, a4⟩ := k1 y hy h0
      have := h (y / 2) (by omega) (by rw [show 32 - (n + 1) = 31 - n by omega]; exact a2)
      rw [half_at t, half_at u, if_neg (by omega), if_neg (by omega), a3] at this
      exact this
    have hhi : t.hi = u.hi := nf_one n _ _ (Tr.hi_nf ht) (Tr.hi_nf hu) (Tr.hi_dep hdt) (Tr.hi_dep hdu) (by omega) fun y hy h0 => by
      obtain ⟨a1, a2, a3, a4⟩ := k1 y hy h0
      have := h (y / 2 + 2147483648) (by omega) (by rw [show 32 - (n + 1) = 31 - n by omega, e3, Nat.add_mul_mod_self_right]; exact a2)
      rw [half_at t, half_at u, if_pos (by omega), if_pos (by omega), a4] at this
      exact this
    cases t with
    | leaf l =>
      cases u with
      | leaf m => simp [Tr.lo] at hlo; rw [hlo]
      | fork a b => simp [Tr.lo, Tr.hi] at hlo hhi; exact absurd ⟨hlo.symm, hhi.symm⟩ (hu.2.2 l)
    | fork a b =>
      cases u with
      | leaf m => simp [Tr.lo, Tr.hi] at hlo hhi; exact absurd ⟨hlo, hhi⟩ (ht.2.2 m)
      | fork c d => simp [Tr.lo, Tr.hi] at hlo hhi; rw [hlo, hhi]
end Go.Proofs.Ytnfdjbaafiifnaa
