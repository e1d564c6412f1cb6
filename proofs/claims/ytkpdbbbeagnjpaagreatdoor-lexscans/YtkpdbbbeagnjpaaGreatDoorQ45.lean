/-
  What has been gathered: lists that came out, lists that were wanted, each reading AA. No condition.
-/
import Derived.Test.YtkpdbbbeagnjpaaGreatDoorQ44
namespace Go.Proofs.YtkpdbbbeagnjpaaGreatDoor
open Go.RowKit Go.Lib

/-- A row of tokens. -/
def OwnK (w : World) (base : Nat) (v : Value) (L : List Tk) : Prop := w.ownsRow base 40 6 v L.length (tkC L)
structure ApS (W1 : World) (base : Nat) (AA : Nat → List Tk) (o wv : Value) (D E : List LD) (w : World) : Prop where
  ls : LsAt 26 40 6 w base o D (fun j => tkC (AA j))
  dn : ∀ j (h : j < D.length), (D[j]).n = (AA j).length
  row : w.ownsRow base 26 1 wv E.length (E.map LD.v)
  each : ∀ j (h : j < E.length), (E[j]).n = (AA j).length ∧ OwnK w base (E[j]).v (AA j)
  ow : ∀ k, o.ownBlock = some k → ¬ wv.ownBlock = some k
  below : Below base W1 w
variable {W1 : World} {base : Nat} {AA : Nat → List Tk} {o wv : Value} {D E : List LD} {w w' : World}
theorem ApS.nil (W1 : World) (base : Nat) (AA : Nat → List Tk) : ApS W1 base AA (.slice none 0 0) (.slice none 0 0) [] [] W1 :=
  ⟨⟨World.ownsRow_nil W1 base 26 1, fun i h => by simp at h, List.Pairwise.nil⟩, fun j h => by simp at h, World.ownsRow_nil W1 base 26 1, fun j h => by simp at h, fun k h => (by cases h), Below.refl _ _⟩
theorem ApS.next (h : ApS W1 base AA o wv D E w) (hb : base ≤ W1.heap.size) (x : Below w.heap.size w w') : ApS W1 base AA o wv D E w' :=
  ⟨h.ls.below x, h.dn, own_below h.row x, fun j hj => ⟨(h.each j hj).1, own_below (h.each j hj).2 x⟩, h.ow, h.below.trans (x.mono (Nat.le_trans hb h.below.size))⟩
theorem ApS.congr {AA' : Nat → List Tk} (h : ApS W1 base AA o wv D E w) (h1 : ∀ j, j < D.length → AA' j = AA j) (h2 : ∀ j, j < E.length → AA' j = AA j) : ApS W1 base AA' o wv D E w :=
  ⟨⟨h.ls.row, fun j hj => by have := h.ls.each j hj; rw [h1 j hj]; exact this, h.ls.apart⟩, fun j hj => by rw [h1 j hj]; exact h.dn j hj, h.row, fun j hj => by rw [h2 j hj]; exact h.each j hj, h.ow, h.below⟩
theorem app_kept {v v' : Value} (h : AppAt w w' v v') : ∃ F : Nat → Prop, Kept F w w' ∧ (∀ k, F k → v.ownBlock = some k) := by
  rcases h with ⟨g, a, b, c⟩ | ⟨a, b⟩
  · exact ⟨fun k => some g = some k, kept_of_grown c, fun k hk => a.trans hk⟩
  · exact ⟨fun _ => False, Kept.of_below (below_of_grown a), fun k hk => hk.elim⟩
theorem app_ne {v v' u : Value} {base n size : Nat} {e : TypeId} {xs : List Value} (h : AppAt w w' v v') (hu : w.ownsRow base e size u n xs) (hvu : ∀ k, v.ownBlock = some k → ¬ u.ownBlock = some k) : ∀ k, v'.ownBlock = some k → ¬ u.ownBlock = some k := by
  intro k hk hk2
  rcases h with ⟨g, a, b, c⟩ | ⟨a, b⟩
  · rw [b] at hk
    exact hvu k (a.trans hk) hk2
  · have := b k hk
    have := (World.ownsRow.lt hu k hk2).2
    omega
theorem below_kept {a b c : World} (hb : base ≤ a.heap.size) (h : Below base a b) (k : Kept (fun k => base ≤ k) b c) : Below base a c := h.trans (k.below (Nat.le_trans hb h.size) (fun _ h => h))
/-- Some lists more came out. -/
theorem ApS.pushO (h : ApS W1 base AA o wv D E w) (hb : base ≤ W1.heap.size) {o' : Value} (V : List LD) (hv : ∀ t (ht : t < V.length), (V[t]).n = (AA (D.length + t)).length ∧ OwnK w base (V[t]).v (AA (D.length + t))) (hVa : ApartL V) (hne : ∀ d ∈ D, ∀ v ∈ V, ∀ k, d.v.ownBlock = some k → ¬ v.v.ownBlock = some k)
    (h1 : w'.ownsRow base 26 1 o' (D.length + V.length) (D.map LD.v ++ V.map LD.v)) (h2 : AppAt w w' o o') : ApS W1 base AA o' wv (D ++ V) E w' := by
  obtain ⟨F, hk, hF⟩ := app_kept h2
  refine ⟨⟨by rw [List.map_append, List.length_append]; exact h1, fun j hj => ?_, ?_⟩, fun j hj => ?_, own_kept h.row hk (fun k h3 h4 => h.ow k (hF k h4) h3), fun j hj => ⟨(h.each j hj).1, own_kept (h.each j hj).2 hk (fun k h3 h4 => own_ne h.ls.row (h.each j hj).2 (by decide) k (hF k h4) h3)⟩, app_ne h2 h.row h.ow, below_kept hb h.below (appKept h2 h.ls.row)⟩
  · by_cases hja : j < D.length
    · rw [List.getElem_append_left hja]
      exact own_kept (h.ls.each j hja) hk (fun k h3 h4 => own_ne h.ls.row (h.ls.each j hja) (by decide) k (hF k h4) h3)
    · rw [List.length_append] at hj
      obtain ⟨t, rfl⟩ : ∃ t, j = D.length + t := ⟨j - D.length, by omega⟩
      have ht : t < V.length := by omega
      obtain ⟨v1, v2⟩ := hv t ht
      have e : (D ++ V)[D.length + t]'(by rw [List.length_append]; omega) = V[t] := by
        rw [List.getElem_append_right (Nat.le_add_right _ _)]
        simp
      rw [e, v1]
      exact own_kept v2 hk (fun k h3 h4 => own_ne h.ls.row v2 (by decide) k (hF k h4) h3)
  · unfold ApartL
    rw [List.pairwise_append]
    exact ⟨h.ls.apart, hVa, fun x hx y hy k hk => hne x hx y hy k hk⟩
  · by_cases hja : j < D.length
    · rw [List.getElem_append_left hja]; exact h.dn j hja
    · rw [List.length_append] at hj
      obtain ⟨t, rfl⟩ : ∃ t, j = D.length + t := ⟨j - D.length, by omega⟩
      have ht : t < V.length := by omega
      have e : (D ++ V)[D.length + t]'(by rw [List.length_append]; omega) = V[t] := by
        rw [List.getElem_append_right (Nat.le_add_right _ _)]
        simp
      rw [e]
      exact (hv t ht).1
/-- Some more were wanted. -/
theorem ApS.pushE (h : ApS W1 base AA o wv D E w) (hb : base ≤ W1.heap.size) {wv' : Value} (V : List LD) (hv : ∀ t (ht : t < V.length), (V[t]).n = (AA (E.length + t)).length ∧ OwnK w base (V[t]).v (AA (E.length + t)))
    (h1 : w'.ownsRow base 26 1 wv' (E.length + V.length) (E.map LD.v ++ V.map LD.v)) (h2 : AppAt w w' wv wv') : ApS W1 base AA o wv' D (E ++ V) w' := by
  obtain ⟨F, hk, hF⟩ := app_kept h2
  refine ⟨⟨own_kept h.ls.row hk (fun k h3 h4 => h.ow k h3 (hF k h4)), fun j hj => own_kept (h.ls.each j hj) hk (fun k h3 h4 => own_ne h.row (h.ls.each j hj) (by decide) k (hF k h4) h3), h.ls.apart⟩, h.dn, by rw [List.map_append, List.length_append]; exact h1, fun j hj => ?_, fun k h3 h4 => app_ne h2 h.ls.row (fun k h5 h6 => h.ow k h6 h5) k h4 h3, below_kept hb h.below (appKept h2 h.row)⟩
  by_cases hja : j < E.length
  · rw [List.getElem_append_left hja]
    exact ⟨(h.each j hja).1, own_kept (h.each j hja).2 hk (fun k h3 h4 => own_ne h.row (h.each j hja).2 (by decide) k (hF k h4) h3)⟩
  · rw [List.length_append] at hj
    obtain ⟨t, rfl⟩ : ∃ t, j = E.length + t := ⟨j - E.length, by omega⟩
    have ht : t < V.length := by omega
    obtain ⟨v1, v2⟩ := hv t ht
    have e : (E ++ V)[E.length + t]'(by rw [List.length_append]; omega) = V[t] := by
      rw [List.getElem_append_right (Nat.le_add_right _ _)]
      simp
    rw [e]
    exact ⟨v1, own_kept v2 hk (fun k h3 h4 => own_ne h.row v2 (by decide) k (hF k h4) h3)⟩
/-- What is beside the row stays. -/
theorem pushed {w w' : World} {o o' v : Value} {base base' n : Nat} {xs : List Value} {A : List Tk} (h : AppAt w w' o o') (ho : w.ownsRow base 26 1 o n xs) (hv : OwnK w base' v A) : OwnK w' base' v A := by
  obtain ⟨F, hk, hF⟩ := app_kept h
  exact own_kept hv hk (fun k h3 h4 => own_ne ho hv (by decide) k (hF k h4) h3)
theorem one_cell (T : TypeId) (w0 : World) (x : Value) : ∀ j u, ([x] : List Value)[j]? = some u → (w0.alloc (.cells #[x] T)).cell? ((⟨w0.heap.size, 0, none⟩ : Addr).add j) = some u := by
  intro j u hu
  match j, hu with
  | 0, hu => simp at hu; subst hu; simp [Addr.add]
/-- apart over what has been gathered. -/
theorem ApS.done {lb lcap eb ecap : Nat} (h : ApS W1 base AA (.slice (some ⟨lb, 0, none⟩) D.length lcap) (.slice (some ⟨eb, 0, none⟩) D.length ecap) D E w) (hb : base ≤ W1.heap.size) (hE : E.length = D.length) (hD : D.length ≤ 1000) (hn : ∀ j, (AA j).length ≤ 4294967296) :
    Calls Tryz.prog 11 #[.slice (some ⟨lb, 0, none⟩) D.length lcap, .slice (some ⟨eb, 0, none⟩) D.length ecap] w fun e w' => e = .returned (.bool true) ∧ Below base W1 w' := by
  have hrow := h.row
  rw [hE] at hrow
  have hcell : ∀ j, j < D.length → w.cell? ⟨eb, j, none⟩ = some ((E[j]?.map LD.v).getD (.slice none 0 0)) ∧ w.ownsRow base 40 6 ((E[j]?.map LD.v).getD (.slice none 0 0)) (AA j).length (tkC (AA j)) := by
    intro j hj
    have hje : j < E.length := by omega
    rw [List.getElem?_eq_getElem hje]
    exact ⟨by rw [own_cell1 hrow rfl hje hE.symm]; rfl, (h.each j hje).2⟩
  refine (apartT_any w base lb lcap eb ecap D AA (fun j => (E[j]?.map LD.v).getD (.slice none 0 0)) h.ls h.dn (World.ownsRow.lt h.row eb rfl).2 hcell (Nat.le_trans hb h.below.size) hD hn).mono ?_
  rintro e w9 ⟨rfl, x9⟩
  exact ⟨rfl, h.below.trans x9⟩
end Go.Proofs.YtkpdbbbeagnjpaaGreatDoor
