/-
  known by its contract. No condition.
-/
import Derived.Test.YtaafeflbanoncaaWrc
namespace Go.Proofs.Ytaafeflbanoncaa
open Go.RowKit Go.Lib Go.Maps

theorem zat_new (w : World) (L : List Int) : ZAt (w.alloc (.cells (zC L).toArray 3)) (some ⟨w.heap.size, 0, none⟩) L := by
  refine .inr ⟨w.heap.size, 0, rfl, by simp, fun i hi => ?_⟩
  rw [Nat.zero_add, cell_of_row _ _ i _ _ _ (heap_alloc_new w _), List.getElem?_toArray, zC_get L hi]
/-- Make, where its answer is known. -/
theorem CA.made {w : World} {a : Nat} {S : List Int} {M : Int} {N N' : List Nd} {m : Nat} {P : Nat → Prop} (h : CA w a S M N m P) {lv f er : Int} {A : List Int} (g c : Nat) (hk : MkP S M N lv A f er N') (hl : A.length ≤ 140737488351232) (hz : ZAt w (some ⟨g, 0, none⟩) A) (hm : m ≤ 1000) {w0 : World} (hb : Below w0.heap.size w0 w) (hp : ∀ k, P k → w0.heap.size ≤ k) :
    Calls Try.prog 56 #[.pointer (some ⟨a, 0, none⟩), .int .i64 lv, .slice (some ⟨g, 0, none⟩) A.length c] w fun e w' => e = .returned (.tuple #[.int .i64 f, .int .i64 er]) ∧ ∃ P', CA w' a S M N' (m + 1) P' ∧ Below w0.heap.size w0 w' ∧ ∀ k, P' k → w0.heap.size ≤ k := by
  refine (h.make lv _ c A hl hz (by omega)).mono ?_
  rintro e w' ⟨f2, er2, N2, rfl, h2, P', h3, h4, h5, _⟩
  obtain ⟨rfl, rfl, rfl⟩ := MkP.one h.ok.nod h2 hk
  exact ⟨rfl, P', h3, hb.trans (h4.below hb.size hp), fun k hk => (h5 k hk).elim (hp k) (Nat.le_trans hb.size)⟩
end Go.Proofs.Ytaafeflbanoncaa
