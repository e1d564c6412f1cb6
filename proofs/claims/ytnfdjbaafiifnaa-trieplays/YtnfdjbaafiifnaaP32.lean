/-
  Rows of a function, by halves; a tree in its one form has just these. Pure. No condition.
-/
import Derived.Test.YtnfdjbaafiifnaaP31
import Derived.Test.YtnfdjbaafiifnaaP10
namespace Go.Proofs.Ytnfdjbaafiifnaa

/-- Is a function of one value from a place on? -/
def Cst (g : Nat → Int) (a S : Nat) : Prop := ∀ n, a ≤ n → n < a + S → g n = g a
open Classical in
/-- Rows of a prefix of d bits more. -/
noncomputable def rowsF (g : Nat → Int) : Nat → Nat → Nat → List Rw
  | 0, a, k => [((a, k), g a)]
  | d + 1, a, k => if Cst g a (2 ^ (d + 1)) then [((a, k), g a)] else rowsF g d a (k + 1) ++ rowsF g d (a + 2 ^ d) (k + 1)
theorem rowsF_cst {g : Nat → Int} {a : Nat} (d k : Nat) (h : Cst g a (2 ^ d)) : rowsF g d a k = [((a, k), g a)] := by
  cases d with
  | zero => rfl
  | succ d => rw [rowsF, if_pos h]
theorem rowsF_not {g : Nat → Int} {a : Nat} (d k : Nat) (h : ¬ Cst g a (2 ^ (d + 1))) : rowsF g (d + 1) a k = rowsF g d a (k + 1) ++ rowsF g d (a + 2 ^ d) (k + 1) := by rw [rowsF, if_neg h]
theorem dn_mul {a j d k : Nat} (hk : k + d = 32) (ha : a % 2 ^ d = 0) (hj : j < 2 ^ d) : dn (a + j) k = j * 2 ^ k := by
  unfold dn
  obtain ⟨q, hq⟩ := Nat.dvd_of_mod_eq_zero ha
  have e : (4294967296 : Nat) = 2 ^ d * 2 ^ k := by rw [← Nat.pow_add, Nat.add_comm d k, hk]
  have e2 : (a + j) * 2 ^ k = j * 2 ^ k + q * (2 ^ d * 2 ^ k) := by
    rw [hq, Nat.add_mul, Nat.add_comm, Nat.mul_comm (2 ^ d) q, Nat.mul_assoc]
  have hlt : j * 2 ^ k < 2 ^ d * 2 ^ k := Nat.mul_lt_mul_of_pos_right hj (Nat.pow_pos (by decide))
  rw [e, e2, Nat.add_mul_mod_self_right, Nat.mod_eq_of_lt hlt]
theorem rows_rowsF (g : Nat → Int) : ∀ (d a k : Nat) (t : Tr), k + d = 32 → t.nf → t.dep ≤ d → (∀ x, a ≤ x → x < a + 2 ^ d → g x = t.at (dn x k)) → a % 2 ^ d = 0 → t.rows a k = rowsF g d a k
  | 0, a, k, t, hk, hn, hd, hg, ha => by
    cases t with
    | leaf l =>
      have := hg a (Nat.le_refl _) (by simp)
      rw [Tr.rows, rowsF, this]
      rfl
    | fork x y => simp [Tr.dep] at hd
  | d + 1, a, k, t, hk, hn, hd, hg, ha => by
    cases t with
    | leaf l =>
      have hc : ∀ n, a ≤ n → n < a + 2 ^ (d + 1) → g n = l := fun n h1 h2 => hg n h1 h2
      have ha' := hc a (Nat.le_refl _) (by have : 0 < 2 ^ (d + 1) := Nat.pow_pos (by decide); omega)
      rw [rowsF_cst (d + 1) k (fun n h1 h2 => by rw [hc n h1 h2, ha']), ha']
      rfl
    | fork x y =>
      have hnc : ¬ Cst g a (2 ^ (d + 1)) := fun hc => by
        have : Tr.fork x y = .leaf (g a) := nf_one (d + 1) _ _ hn trivial hd (by simp [Tr.dep]) (by omega) (fun z hz h0 => by
          rw [show 32 - (d + 1) = k by omega] at h0
          obtain ⟨q, hq⟩ := Nat.dvd_of_mod_eq_zero h0
          have e : (4294967296 : Nat) = 2 ^ (d + 1) * 2 ^ k := by rw [← Nat.pow_add, Nat.add_comm (d + 1) k, hk]
          have hqd : q < 2 ^ (d + 1) := by
            rw [e, hq, Nat.mul_comm] at hz
            exact Nat.lt_of_mul_lt_mul_right hz
          have := hg (a + q) (by omega) (by omega)
          rw [dn_mul hk ha hqd, Nat.mul_comm, ← hq] at this
          rw [← this, hc (a + q) (by omega) (by omega)]
          rfl)
        cases this
      have h31 : 31 - k = d := by omega
      have hp : 2 ^ (d + 1) = 2 ^ d * 2 := Nat.pow_succ 2 d
      have hpos : 0 < 2 ^ d := Nat.pow_pos (by decide)
      have hdx : x.dep ≤ d ∧ y.dep ≤ d := by simp [Tr.dep] at hd; omega
      have had : a % 2 ^ d = 0 := by
        have : a % 2 ^ d = (a % (2 ^ d * 2)) % 2 ^ d := by rw [Nat.mod_mul_right_mod]
        rw [this, ← hp, ha]
        exact Nat.zero_mod _
      have hhi : ∀ z, a ≤ z → z < a + 2 ^ (d + 1) → (2147483648 ≤ dn z k ↔ a + 2 ^ d ≤ z) := fun z h1 h2 => by
        have := dn_high (a := a) (x := z) (k := k) (by omega) (by rw [show 32 - k = d + 1 by omega]; exact ha) h1 (by rw [show 32 - k = d + 1 by omega]; exact h2)
        rw [h31] at this
        exact this
      rw [rowsF_not d k hnc]
      show x.rows a (k + 1) ++ y.rows (a + 2 ^ (31 - k)) (k + 1) = _
      rw [h31, rows_rowsF g d a (k + 1) x (by omega) hn.1 hdx.1 (fun z h1 h2 => ?_) had, rows_rowsF g d (a + 2 ^ d) (k + 1) y (by omega) hn.2.1 hdx.2 (fun z h1 h2 => ?_) (by rw [Nat.add_mod_right]; exact had)]
      · have e := hg z (by omega) (by omega)
        rw [e, show (Tr.fork x y).at (dn z k) = if 2147483648 ≤ dn z k then y.at (sh (dn z k)) else x.at (sh (dn z k)) from rfl, if_pos ((hhi z (by omega) (by omega)).2 h1), dn_succ]
      · have e := hg z h1 (by omega)
        rw [e, show (Tr.fork x y).at (dn z k) = if 2147483648 ≤ dn z k then y.at (sh (dn z k)) else x.at (sh (dn z k)) from rfl, if_neg (fun h => by have := (hhi z h1 (by omega)).1 h; omega), dn_succ]
/-- A tree's rows are its function's. -/
theorem tree_rows {t : Tr} (hn : t.nf) (hd : t.dep ≤ 32) : t.rows 0 0 = rowsF t.at 32 0 0 :=
  rows_rowsF t.at 32 0 0 t rfl hn hd (fun x _ h => by rw [dn_zero x (by simpa using h)]) (by simp)
/-- One value as far as the next place. -/
theorem cst_iff {g : Nat → Int} {m : Nat} {C : List (Int × Int)} (h : Cz g m C) {i a S : Nat} {c : Int × Int} (hi : C[i]? = some c) (h1 : c.1 ≤ (a : Int)) (h2 : (a : Int) < nxt C m (i + 1)) (hm : a + S ≤ m) : Cst g a S ↔ ((a + S : Nat) : Int) ≤ nxt C m (i + 1) := by
  have ea := h.seg i c hi a h1 h2
  constructor
  · intro hc
    rcases (by omega : nxt C m (i + 1) < ((a + S : Nat) : Int) ∨ ((a + S : Nat) : Int) ≤ nxt C m (i + 1)) with hlt | hge
    · exfalso
      cases hd : C[i + 1]? with
      | none =>
        have : nxt C m (i + 1) = m := by unfold nxt; rw [hd]; rfl
        omega
      | some d =>
        have e := nxt_some (m := m) hd
        obtain ⟨p1, p2⟩ := h.pos _ _ hd
        obtain ⟨n, hn⟩ := Int.eq_ofNat_of_zero_le p1
        have en := h.seg (i + 1) d hd n (by omega) (by have := h.rise _ _ hd; omega)
        have := hc n (by omega) (by omega)
        rw [en, ea] at this
        exact h.unlike i c d hi hd this.symm
    · exact hge
  · intro hle n hn1 hn2
    rw [ea]
    exact h.seg i c hi n (by omega) (by omega)
end Go.Proofs.Ytnfdjbaafiifnaa
/-
  Lists that came out, each in a block of its own: all marked, then grown one by one, each looked at K times; what was looked at stays. Of no program: no condition.
-/
namespace Go.Proofs.Ytnfdjbaafiifnaa
open Go.RowKit Go.Lib

section
variable {K : Nat} {TS T : TypeId} {sz : Nat} {mc : Nat → List Value}

/-- Between two lists: i have been grown, and looked at K times each. -/
structure KrO (K : Nat) (TS T : TypeId) (sz : Nat) (mc : Nat → List Value) (w : World) (base : Nat) (l o : Value) (D : List LD) (A : List LD) (i : Nat) : Prop where
  row : w.ownsRow base TS 1 l D.length (D.map LD.v)
  all : w.ownsRow base TS 1 o A.length (A.map LD.v)
  ol : ∀ k, o.ownBlock = some k → ¬ l.ownBlock = some k
  len : A.length = K * i
  views : ∀ j (hj : j < A.length), Vw T sz mc w (A[j]).v (A[j]).n (j / K) ∧ ∀ k, (A[j]).v.ownBlock = some k → ¬ FutL D i k
  lists : ∀ i' (h : i' < D.length), i ≤ i' → w.ownsRow base T sz (D[i']).v (D[i']).n (rep mc i' (D[i']).n)
  apart : ApartL D
/-- Within the i-th: x is what it has grown to. -/
structure Kr (K : Nat) (TS T : TypeId) (sz : Nat) (mc : Nat → List Value) (w : World) (base : Nat) (l o : Value) (D : List LD) (A : List LD) (i q : Nat) (x : Value) (nx : Nat) : Prop where
  row : w.ownsRow base TS 1 l D.length (D.map LD.v)
  all : w.ownsRow base TS 1 o A.length (A.map LD.v)
  ol : ∀ k, o.ownBlock = some k → ¬ l.ownBlock = some k
  len : A.length = K * i + q
  views : ∀ j (hj : j < A.length), Vw T sz mc w (A[j]).v (A[j]).n (j / K) ∧ ∀ k, (A[j]).v.ownBlock = some k → ¬ FutL D (i + 1) k ∧ (x.ownBlock = some k → j / K = i ∧ (A[j]).n ≤ nx)
  own : w.ownsRow base T sz x nx (rep mc i nx)
  xf : ∀ k, x.ownBlock = some k → ¬ FutL D (i + 1) k
  lists : ∀ i' (h : i' < D.length), i + 1 ≤ i' → w.ownsRow base T sz (D[i']).v (D[i']).n (rep mc i' (D[i']).n)
  apart : ApartL D

theorem KrO.below {w w' : World} {base : Nat} {l o : Value} {D A : List LD} {i : Nat} (h : KrO K TS T sz mc w base l o D A i) (hb : Below w.heap.size w w') : KrO K TS T sz mc w' base l o D A i :=
  ⟨own_below h.row hb, own_below h.all hb, h.ol, h.len, fun j hj => ⟨(h.views j hj).1.below hb, (h.views j hj).2⟩, fun i' h1 h2 => own_below (h.lists i' h1 h2) hb, h.apart⟩
theorem Kr.below {w w' : World} {base : Nat} {l o : Value} {D A : List LD} {i q : Nat} {x : Value} {nx : Nat} (h : Kr K TS T sz mc w base l o D A i q x nx) (hb : Below w.heap.size w w') : Kr K TS T sz mc w' base l o D A i q x nx :=
  ⟨own_below h.row hb, own_below h.all hb, h.ol, h.len, fun j hj => ⟨(h.views j hj).1.below hb, (h.views j hj).2⟩, own_below h.own hb, h.xf, fun i' h1 h2 => own_below (h.lists i' h1 h2) hb, h.apart⟩
theorem KrO.start {w : World} {base : Nat} {l : Value} {D : List LD} (h : LsAt TS T sz w base l D (fun i => rep mc i ((D[i]?.map LD.n).getD 0))) : KrO K TS T sz mc w base l (.slice none 0 0) D [] 0 :=
  ⟨h.row, World.ownsRow_nil w base TS 1, fun k hk => (by cases hk), rfl, fun j hj => (by simp at hj), fun i' h1 _ => by have := h.each i' h1; simpa [h1] using this, h.apart⟩
theorem KrO.enter {w : World} {base : Nat} {l o : Value} {D A : List LD} {i : Nat} (h : KrO K TS T sz mc w base l o D A i) (hi : i < D.length) : Kr K TS T sz mc w base l o D A i 0 (D[i]).v (D[i]).n := by
  refine ⟨h.row, h.all, h.ol, h.len, fun j hj => ⟨(h.views j hj).1, fun k hk => ⟨fun ⟨i', h1, h2, h3⟩ => (h.views j hj).2 k hk ⟨i', h1, by omega, h3⟩, fun hx => ?_⟩⟩, h.lists i hi (Nat.le_refl _), fun k hk => ?_, fun i' h1 h2 => h.lists i' h1 (by omega), h.apart⟩
  · exact absurd ⟨i, hi, Nat.le_refl _, hx⟩ ((h.views j hj).2 k hk)
  · rintro ⟨i', h1, h2, h3⟩
    exact h.apart.ne hi h1 (by omega) hk h3
theorem Kr.leave {w : World} {base : Nat} {l o : Value} {D A : List LD} {i : Nat} {x : Value} {nx : Nat} (h : Kr K TS T sz mc w base l o D A i K x nx) : KrO K TS T sz mc w base l o D A (i + 1) :=
  ⟨h.row, h.all, h.ol, by have := h.len; rw [Nat.mul_succ]; exact this, fun j hj => ⟨(h.views j hj).1, fun k hk => ((h.views j hj).2 k hk).1⟩, h.lists, h.apart⟩
/-- all = append(all, x) -/
theorem Kr.push (hmc : ∀ i, (mc i).length = sz) (hne : TS ≠ T) {w w' : World} {base : Nat} {l o o' : Value} {D A : List LD} {i q : Nat} {x : Value} {nx : Nat} (h : Kr K TS T sz mc w base l o D A i q x nx) (hq : q < K)
    (h1 : w'.ownsRow base TS 1 o' (A.length + 1) (A.map LD.v ++ [x])) (h2 : AppAt w w' o o') : Kr K TS T sz mc w' base l o' D (A ++ [⟨x, nx⟩]) i (q + 1) x nx := by
  have hk : ∃ F : Nat → Prop, Kept F w w' ∧ (∀ k, F k → o.ownBlock = some k) := by
    rcases h2 with ⟨g, a, b, c⟩ | ⟨a, b⟩
    · exact ⟨fun k => some g = some k, kept_of_grown c, fun k hk => a.trans hk⟩
    · exact ⟨fun _ => False, Kept.of_below (below_of_grown a), fun k hk => hk.elim⟩
  obtain ⟨F, hk, hF⟩ := hk
  refine ⟨own_kept h.row hk (fun k h3 h4 => h.ol k (hF k h4) h3), by rw [List.map_append, List.length_append]; exact h1, ?_, by rw [List.length_append, h.len]; rfl, ?_, own_kept h.own hk (fun k h3 h4 => own_ne h.all h.own hne k (hF k h4) h3), h.xf, fun i' h3 h4 => own_kept (h.lists i' h3 h4) hk (fun k h5 h6 => own_ne h.all (h.lists i' h3 h4) hne k (hF k h6) h5), h.apart⟩
  · intro k hk'
    rcases h2 with ⟨g, a, b, c⟩ | ⟨a, b⟩
    · rw [b] at hk'
      exact h.ol k (a.trans hk')
    · intro hl
      have := b k hk'
      have := (World.ownsRow.lt h.row k hl).2
      omega
  · intro j hj
    by_cases hja : j < A.length
    · rw [List.getElem_append_left hja]
      obtain ⟨v1, v2⟩ := h.views j hja
      refine ⟨v1.kept hk (fun k h3 h4 => ?_), v2⟩
      obtain ⟨cs, h5⟩ := v1.ty k h3
      obtain ⟨cs', h6⟩ := own_ty h.all k (hF k h4)
      rw [h5] at h6
      simp at h6
      exact hne h6.2.symm
    · have hje : j = A.length := by rw [List.length_append] at hj; simp at hj; omega
      subst hje
      rw [List.getElem_append_right (Nat.le_refl _)]
      simp only [Nat.sub_self, List.getElem_cons_zero]
      rw [h.len, show (K * i + q) / K = i by rw [Nat.mul_add_div (by omega), Nat.div_eq_of_lt hq, Nat.add_zero]]
      exact ⟨(Vw.of_own hmc h.own).kept hk (fun k h3 h4 => own_ne h.all h.own hne k (hF k h4) h3), fun k hk => ⟨h.xf k hk, fun _ => ⟨rfl, Nat.le_refl _⟩⟩⟩
/-- x = append(x, a mark) -/
theorem Kr.grow (hmc : ∀ i, (mc i).length = sz) (hne : TS ≠ T) {w w' : World} {base : Nat} {l o : Value} {D A : List LD} {i q : Nat} {x x' : Value} {nx : Nat} (h : Kr K TS T sz mc w base l o D A i q x nx)
    (h1 : w'.ownsRow base T sz x' (nx + 1) (rep mc i nx ++ mc i)) (h2 : AppAt w w' x x') : Kr K TS T sz mc w' base l o D A i q x' (nx + 1) := by
  rw [← rep_succ] at h1
  rcases h2 with ⟨g, a, b, c⟩ | ⟨a, b⟩
  · have hk := kept_of_grown c
    refine ⟨own_kept h.row hk (fun k h3 h4 => ?_), own_kept h.all hk (fun k h3 h4 => ?_), h.ol, h.len, fun j hj => ?_, h1, fun k hk' => h.xf k (by rw [a]; rw [b] at hk'; exact hk'), fun i' h3 h4 => own_kept (h.lists i' h3 h4) hk (fun k h5 h6 => ?_), h.apart⟩
    · cases h4
      exact own_ne h.row h.own hne g h3 a
    · cases h4
      exact own_ne h.all h.own hne g h3 a
    · obtain ⟨v1, v2⟩ := h.views j hj
      refine ⟨?_, fun k hk' => ⟨(v2 k hk').1, fun hx => ?_⟩⟩
      · by_cases hb : (A[j]).v.ownBlock = some g
        · obtain ⟨e1, e2⟩ := (v2 g hb).2 a
          rw [e1] at v1 ⊢
          exact v1.short hmc hb b h1 (by omega)
        · exact v1.kept hk (fun k h3 h4 => hb (h3.trans h4.symm))
      · have := (v2 k hk').2 (by rw [a]; rw [b] at hx; exact hx)
        exact ⟨this.1, by omega⟩
    · cases h6
      exact h.xf g a ⟨i', h3, h4, h5⟩
  · have hb := below_of_grown a
    refine ⟨own_below h.row hb, own_below h.all hb, h.ol, h.len, fun j hj => ?_, h1, fun k hk => ?_, fun i' h3 h4 => own_below (h.lists i' h3 h4) hb, h.apart⟩
    · obtain ⟨v1, v2⟩ := h.views j hj
      refine ⟨v1.below hb, fun k hk' => ⟨(v2 k hk').1, fun hx => ?_⟩⟩
      have := v1.lt k hk'
      have := b k hx
      omega
    · rintro ⟨i', h3, h4, h5⟩
      have := (World.ownsRow.lt (h.lists i' h3 h4) k h5).2
      have := b k hk
      omega
end
end Go.Proofs.Ytnfdjbaafiifnaa
