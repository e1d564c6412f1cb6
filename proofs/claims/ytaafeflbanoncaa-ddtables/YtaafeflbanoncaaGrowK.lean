/-
  Lists that came out, each in a block of its own: all marked, then grown one by one, each looked at K times; what was looked at stays. Of no program: no condition.
-/
import Derived.Test.YtaafeflbanoncaaGrow
namespace Go.Proofs.Ytaafeflbanoncaa
open Go.RowKit Go.Lib

section
variable {K : Nat} {TS T : TypeId} {sz : Nat} {mc : Nat → List Value}

/-- Between two lists: i have been grown, and looked at K times each. -/
structure KrO (K : Nat) (TS T : TypeId) (sz : Nat) (mc : Nat → List Value) (w : World) (base : Nat) (l o : Value) (D : List LD) (A : List LD) (i : Nat) : Prop where
  row : w.ownsRow base TS 1 l D.length (D.map LD.v)
  all : w.ownsRow base TS 1 o A.length (A.map LD.v)
  ol : ∀ k, o.ownBlock = some k → ¬ l.ownBlock = some k
  len : A.length = K * i
  views : ∀ j (hj : j < A.length), Vw T sz mc w (A[j]).v (A[j]).n (j / K) ∧ ∀ k, (A[j]).v.ownBlock = some k → ¬ FutL D i k
  lists : ∀ i' (h : i' < D.length), i ≤ i' → w.ownsRow base T sz (D[i']).v (D[i']).n (rep mc i' (D[i']).n)
  apart : ApartL D
/-- Within the i-th: x is what it has grown to. -/
structure Kr (K : Nat) (TS T : TypeId) (sz : Nat) (mc : Nat → List Value) (w : World) (base : Nat) (l o : Value) (D : List LD) (A : List LD) (i q : Nat) (x : Value) (nx : Nat) : Prop where
  row : w.ownsRow base TS 1 l D.length (D.map LD.v)
  all : w.ownsRow base TS 1 o A.length (A.map LD.v)
  ol : ∀ k, o.ownBlock = some k → ¬ l.ownBlock = some k
  len : A.length = K * i + q
  views : ∀ j (hj : j < A.length), Vw T sz mc w (A[j]).v (A[j]).n (j / K) ∧ ∀ k, (A[j]).v.ownBlock = some k → ¬ FutL D (i + 1) k ∧ (x.ownBlock = some k → j / K = i ∧ (A[j]).n ≤ nx)
  own : w.ownsRow base T sz x nx (rep mc i nx)
  xf : ∀ k, x.ownBlock = some k → ¬ FutL D (i + 1) k
  lists : ∀ i' (h : i' < D.length), i + 1 ≤ i' → w.ownsRow base T sz (D[i']).v (D[i']).n (rep mc i' (D[i']).n)
  apart : ApartL D

theorem KrO.below {w w' : World} {base : Nat} {l o : Value} {D A : List LD} {i : Nat} (h : KrO K TS T sz mc w base l o D A i) (hb : Below w.heap.size w w') : KrO K TS T sz mc w' base l o D A i :=
  ⟨own_below h.row hb, own_below h.all hb, h.ol, h.len, fun j hj => ⟨(h.views j hj).1.below hb, (h.views j hj).2⟩, fun i' h1 h2 => own_below (h.lists i' h1 h2) hb, h.apart⟩
theorem Kr.below {w w' : World} {base : Nat} {l o : Value} {D A : List LD} {i q : Nat} {x : Value} {nx : Nat} (h : Kr K TS T sz mc w base l o D A i q x nx) (hb : Below w.heap.size w w') : Kr K TS T sz mc w' base l o D A i q x nx :=
  ⟨own_below h.row hb, own_below h.all hb, h.ol, h.len, fun j hj => ⟨(h.views j hj).1.below hb, (h.views j hj).2⟩, own_below h.own hb, h.xf, fun i' h1 h2 => own_below (h.lists i' h1 h2) hb, h.apart⟩
theorem KrO.start {w : World} {base : Nat} {l : Value} {D : List LD} (h : LsAt TS T sz w base l D (fun i => rep mc i ((D[i]?.map LD.n).getD 0))) : KrO K TS T sz mc w base l (.slice none 0 0) D [] 0 :=
  ⟨h.row, World.ownsRow_nil w base TS 1, fun k hk => (by cases hk), rfl, fun j hj => (by simp at hj), fun i' h1 _ => by have := h.each i' h1; simpa [h1] using this, h.apart⟩
theorem KrO.enter {w : World} {base : Nat} {l o : Value} {D A : List LD} {i : Nat} (h : KrO K TS T sz mc w base l o D A i) (hi : i < D.length) : Kr K TS T sz mc w base l o D A i 0 (D[i]).v (D[i]).n := by
  refine ⟨h.row, h.all, h.ol, h.len, fun j hj => ⟨(h.views j hj).1, fun k hk => ⟨fun ⟨i', h1, h2, h3⟩ => (h.views j hj).2 k hk ⟨i', h1, by omega, h3⟩, fun hx => ?_⟩⟩, h.lists i hi (Nat.le_refl _), fun k hk => ?_, fun i' h1 h2 => h.lists i' h1 (by omega), h.apart⟩
  · exact absurd ⟨i, hi, Nat.le_refl _, hx⟩ ((h.views j hj).2 k hk)
  · rintro ⟨i', h1, h2, h3⟩
    exact h.apart.ne hi h1 (by omega) hk h3
theorem Kr.leave {w : World} {base : Nat} {l o : Value} {D A : List LD} {i : Nat} {x : Value} {nx : Nat} (h : Kr K TS T sz mc w base l o D A i K x nx) : KrO K TS T sz mc w base l o D A (i + 1) :=
  ⟨h.row, h.all, h.ol, by have := h.len; rw [Nat.mul_succ]; exact this, fun j hj => ⟨(h.views j hj).1, fun k hk => ((h.views j hj).2 k hk).1⟩, h.lists, h.apart⟩
/-- all = append(all, x) -/
theorem Kr.push (hmc : ∀ i, (mc i).length = sz) (hne : TS ≠ T) {w w' : World} {base : Nat} {l o o' : Value} {D A : List LD} {i q : Nat} {x : Value} {nx : Nat} (h : Kr K TS T sz mc w base l o D A i q x nx) (hq : q < K)
    (h1 : w'.ownsRow base TS 1 o' (A.length + 1) (A.map LD.v ++ [x])) (h2 : AppAt w w' o o') : Kr K TS T sz mc w' base l o' D (A ++ [⟨x, nx⟩]) i (q + 1) x nx := by
  have hk : ∃ F : Nat → Prop, Kept F w w' ∧ (∀ k, F k → o.ownBlock = some k) := by
    rcases h2 with ⟨g, a, b, c⟩ | ⟨a, b⟩
    · exact ⟨fun k => some g = some k, kept_of_grown c, fun k hk => a.trans hk⟩
    · exact ⟨fun _ => False, Kept.of_below (below_of_grown a), fun k hk => hk.elim⟩
  obtain ⟨F, hk, hF⟩ := hk
  refine ⟨own_kept h.row hk (fun k h3 h4 => h.ol k (hF k h4) h3), by rw [List.map_append, List.length_append]; exact h1, ?_, by rw [List.length_append, h.len]; rfl, ?_, own_kept h.own hk (fun k h3 h4 => own_ne h.all h.own hne k (hF k h4) h3), h.xf, fun i' h3 h4 => own_kept (h.lists i' h3 h4) hk (fun k h5 h6 => own_ne h.all (h.lists i' h3 h4) hne k (hF k h6) h5), h.apart⟩
  · intro k hk'
    rcases h2 with ⟨g, a, b, c⟩ | ⟨a, b⟩
    · rw [b] at hk'
      exact h.ol k (a.trans hk')
    · intro hl
      have := b k hk'
      have := (World.ownsRow.lt h.row k hl).2
      omega
  · intro j hj
    by_cases hja : j < A.length
    · rw [List.getElem_append_left hja]
      obtain ⟨v1, v2⟩ := h.views j hja
      refine ⟨v1.kept hk (fun k h3 h4 => ?_), v2⟩
      obtain ⟨cs, h5⟩ := v1.ty k h3
      obtain ⟨cs', h6⟩ := own_ty h.all k (hF k h4)
      rw [h5] at h6
      simp at h6
      exact hne h6.2.symm
    · have hje : j = A.length := by rw [List.length_append] at hj; simp at hj; omega
      subst hje
      rw [List.getElem_append_right (Nat.le_refl _)]
      simp only [Nat.sub_self, List.getElem_cons_zero]
      rw [h.len, show (K * i + q) / K = i by rw [Nat.mul_add_div (by omega), Nat.div_eq_of_lt hq, Nat.add_zero]]
      exact ⟨(Vw.of_own hmc h.own).kept hk (fun k h3 h4 => own_ne h.all h.own hne k (hF k h4) h3), fun k hk => ⟨h.xf k hk, fun _ => ⟨rfl, Nat.le_refl _⟩⟩⟩
/-- x = append(x, a mark) -/
theorem Kr.grow (hmc : ∀ i, (mc i).length = sz) (hne : TS ≠ T) {w w' : World} {base : Nat} {l o : Value} {D A : List LD} {i q : Nat} {x x' : Value} {nx : Nat} (h : Kr K TS T sz mc w base l o D A i q x nx)
    (h1 : w'.ownsRow base T sz x' (nx + 1) (rep mc i nx ++ mc i)) (h2 : AppAt w w' x x') : Kr K TS T sz mc w' base l o D A i q x' (nx + 1) := by
  rw [← rep_succ] at h1
  rcases h2 with ⟨g, a, b, c⟩ | ⟨a, b⟩
  · have hk := kept_of_grown c
    refine ⟨own_kept h.row hk (fun k h3 h4 => ?_), own_kept h.all hk (fun k h3 h4 => ?_), h.ol, h.len, fun j hj => ?_, h1, fun k hk' => h.xf k (by rw [a]; rw [b] at hk'; exact hk'), fun i' h3 h4 => own_kept (h.lists i' h3 h4) hk (fun k h5 h6 => ?_), h.apart⟩
    · cases h4
      exact own_ne h.row h.own hne g h3 a
    · cases h4
      exact own_ne h.all h.own hne g h3 a
    · obtain ⟨v1, v2⟩ := h.views j hj
      refine ⟨?_, fun k hk' => ⟨(v2 k hk').1, fun hx => ?_⟩⟩
      · by_cases hb : (A[j]).v.ownBlock = some g
        · obtain ⟨e1, e2⟩ := (v2 g hb).2 a
          rw [e1] at v1 ⊢
          exact v1.short hmc hb b h1 (by omega)
        · exact v1.kept hk (fun k h3 h4 => hb (h3.trans h4.symm))
      · have := (v2 k hk').2 (by rw [a]; rw [b] at hx; exact hx)
        exact ⟨this.1, by omega⟩
    · cases h6
      exact h.xf g a ⟨i', h3, h4, h5⟩
  · have hb := below_of_grown a
    refine ⟨own_below h.row hb, own_below h.all hb, h.ol, h.len, fun j hj => ?_, h1, fun k hk => ?_, fun i' h3 h4 => own_below (h.lists i' h3 h4) hb, h.apart⟩
    · obtain ⟨v1, v2⟩ := h.views j hj
      refine ⟨v1.below hb, fun k hk' => ⟨(v2 k hk').1, fun hx => ?_⟩⟩
      have := v1.lt k hk'
      have := b k hx
      omega
    · rintro ⟨i', h3, h4, h5⟩
      have := (World.ownsRow.lt (h.lists i' h3 h4) k h5).2
      have := b k hk
      omega
end
end Go.Proofs.Ytaafeflbanoncaa
