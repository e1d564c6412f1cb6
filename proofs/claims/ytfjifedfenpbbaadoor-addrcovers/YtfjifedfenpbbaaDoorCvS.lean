/-
  What AddrCovers has gathered: what came out, what was wanted. No condition.
-/
import Derived.Test.YtfjifedfenpbbaaDoorLentZ
import Derived.Test.YtfjifedfenpbbaaDoorOwnedW
namespace Go.Proofs.YtfjifedfenpbbaaDoor
open Go.RowKit Go.Lib

structure CvS (W1 : World) (base : Nat) (LL : Nat → List Spn) (o wv : Value) (D E : List LD) (w : World) : Prop where
  ls : LsAt 44 28 2 w base o D (fun j => spCells (CV (LL j)))
  dn : ∀ j (h : j < D.length), (D[j]).n = (CV (LL j)).length
  row : w.ownsRow base 44 1 wv E.length (E.map LD.v)
  each : ∀ j (h : j < E.length), (E[j]).n = (CV (LL j)).length ∧ OwnT 28 w base (E[j]).v (CV (LL j))
  ow : ∀ k, o.ownBlock = some k → ¬ wv.ownBlock = some k
  below : Below base W1 w
variable {W1 : World} {base : Nat} {LL : Nat → List Spn} {o wv : Value} {D E : List LD} {w w' : World}
theorem CvS.nil (W1 : World) (base : Nat) (LL : Nat → List Spn) : CvS W1 base LL (.slice none 0 0) (.slice none 0 0) [] [] W1 :=
  ⟨⟨World.ownsRow_nil W1 base 44 1, fun i h => by simp at h, List.Pairwise.nil⟩, fun j h => by simp at h, World.ownsRow_nil W1 base 44 1, fun j h => by simp at h, fun k h => (by cases h), Below.refl _ _⟩
theorem CvS.next (h : CvS W1 base LL o wv D E w) (hb : base ≤ W1.heap.size) (x : Below w.heap.size w w') : CvS W1 base LL o wv D E w' :=
  ⟨h.ls.below x, h.dn, own_below h.row x, fun j hj => ⟨(h.each j hj).1, (h.each j hj).2.below x⟩, h.ow, bt h.below x hb⟩
theorem app_kept {v v' : Value} (h : AppAt w w' v v') : ∃ F : Nat → Prop, Kept F w w' ∧ (∀ k, F k → v.ownBlock = some k) := by
  rcases h with ⟨g, a, b, c⟩ | ⟨a, b⟩
  · exact ⟨fun k => some g = some k, kept_of_grown c, fun k hk => a.trans hk⟩
  · exact ⟨fun _ => False, Kept.of_below (below_of_grown a), fun k hk => hk.elim⟩
theorem app_ne {v v' u : Value} {base n size : Nat} {e : TypeId} {xs : List Value} (h : AppAt w w' v v') (hu : w.ownsRow base e size u n xs) (hvu : ∀ k, v.ownBlock = some k → ¬ u.ownBlock = some k) : ∀ k, v'.ownBlock = some k → ¬ u.ownBlock = some k := by
  intro k hk hk2
  rcases h with ⟨g, a, b, c⟩ | ⟨a, b⟩
  · rw [b] at hk
    exact hvu k (a.trans hk) hk2
  · have := b k hk
    have := (World.ownsRow.lt hu k hk2).2
    omega
theorem CvS.pushO (h : CvS W1 base LL o wv D E w) (hb : base ≤ W1.heap.size) {v o' : Value} (hv : OwnT 28 w base v (CV (LL D.length))) (hne : ∀ j (hj : j < D.length) k, (D[j]).v.ownBlock = some k → ¬ v.ownBlock = some k)
    (h1 : w'.ownsRow base 44 1 o' (D.length + 1) (D.map LD.v ++ [v])) (h2 : AppAt w w' o o') : CvS W1 base LL o' wv (D ++ [⟨v, (CV (LL D.length)).length⟩]) E w' := by
  obtain ⟨F, hk, hF⟩ := app_kept h2
  have hvk : ∀ k, v.ownBlock = some k → ¬ F k := fun k h3 h4 => own_ne h.ls.row hv (by decide) k (hF k h4) h3
  refine ⟨⟨by rw [List.map_append, List.length_append]; exact h1, fun j hj => ?_, ?_⟩, fun j hj => ?_, own_kept h.row hk (fun k h3 h4 => h.ow k (hF k h4) h3), fun j hj => ⟨(h.each j hj).1, (h.each j hj).2.kept hk (fun k h3 h4 => own_ne h.ls.row (h.each j hj).2 (by decide) k (hF k h4) h3)⟩, app_ne h2 h.row h.ow, below_base h.below (appKept h2 h.ls.row) hb⟩
  · by_cases hja : j < D.length
    · rw [List.getElem_append_left hja]
      exact own_kept (h.ls.each j hja) hk (fun k h3 h4 => own_ne h.ls.row (h.ls.each j hja) (by decide) k (hF k h4) h3)
    · have hje : j = D.length := by rw [List.length_append] at hj; simp at hj; omega
      subst hje
      rw [List.getElem_append_right (Nat.le_refl _)]
      simp only [Nat.sub_self, List.getElem_cons_zero]
      exact hv.kept hk hvk
  · unfold ApartL
    rw [List.pairwise_append]
    refine ⟨h.ls.apart, List.pairwise_singleton .., fun x hx y hy k hk => ?_⟩
    rw [List.mem_singleton.1 hy]
    obtain ⟨j, hj, rfl⟩ := List.getElem_of_mem hx
    exact hne j hj k hk
  · by_cases hja : j < D.length
    · rw [List.getElem_append_left hja]; exact h.dn j hja
    · have hje : j = D.length := by rw [List.length_append] at hj; simp at hj; omega
      subst hje
      rw [List.getElem_append_right (Nat.le_refl _)]
      simp
theorem CvS.pushE (h : CvS W1 base LL o wv D E w) (hb : base ≤ W1.heap.size) {v wv' : Value} (hv : OwnT 28 w base v (CV (LL E.length)))
    (h1 : w'.ownsRow base 44 1 wv' (E.length + 1) (E.map LD.v ++ [v])) (h2 : AppAt w w' wv wv') : CvS W1 base LL o wv' D (E ++ [⟨v, (CV (LL E.length)).length⟩]) w' := by
  obtain ⟨F, hk, hF⟩ := app_kept h2
  refine ⟨⟨own_kept h.ls.row hk (fun k h3 h4 => h.ow k h3 (hF k h4)), fun j hj => own_kept (h.ls.each j hj) hk (fun k h3 h4 => own_ne h.row (h.ls.each j hj) (by decide) k (hF k h4) h3), h.ls.apart⟩, h.dn, by rw [List.map_append, List.length_append]; exact h1, fun j hj => ?_, fun k h3 h4 => app_ne h2 h.ls.row (fun k h5 h6 => h.ow k h6 h5) k h4 h3, below_base h.below (appKept h2 h.row) hb⟩
  by_cases hja : j < E.length
  · rw [List.getElem_append_left hja]
    exact ⟨(h.each j hja).1, (h.each j hja).2.kept hk (fun k h3 h4 => own_ne h.row (h.each j hja).2 (by decide) k (hF k h4) h3)⟩
  · have hje : j = E.length := by rw [List.length_append] at hj; simp at hj; omega
    subst hje
    rw [List.getElem_append_right (Nat.le_refl _)]
    simp only [Nat.sub_self, List.getElem_cons_zero]
    exact ⟨by first | rfl | trivial, hv.kept hk (fun k h3 h4 => own_ne h.row hv (by decide) k (hF k h4) h3)⟩
end Go.Proofs.YtfjifedfenpbbaaDoor
