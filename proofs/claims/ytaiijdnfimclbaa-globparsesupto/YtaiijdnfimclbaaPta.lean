/-
  GlobParts, walked: whatever it is given, it answers true; nothing that was there has turned. Condition: the texts have at most 2^32 bytes.
-/
import Derived.Test.YtaiijdnfimclbaaKnw
import Derived.Test.YtaiijdnfimclbaaMCat
import Derived.Test.YtaiijdnfimclbaaApp0
namespace Go.Proofs.Ytaiijdnfimclbaa
open Go.RowKit Go.Lib

theorem pdCells_length (D : List PD) : (pdCells D).length = D.length * 4 := by
  induction D with
  | nil => rfl
  | cons d D ih =>
    have e : pdCells (d :: D) = .int .i64 d.p.kind :: .int .i64 d.p.b :: .bool d.p.no :: d.v :: pdCells D := by simp [pdCells, PD.cells]
    rw [e]
    simp only [List.length_cons]
    omega
theorem pdCells_append (D E : List PD) : pdCells (D ++ E) = pdCells D ++ pdCells E := by simp [pdCells]
theorem pdCells_one (D : List PD) : ∀ v ∈ pdCells D, v.oneCell' = true := by
  intro v hv
  unfold pdCells at hv
  obtain ⟨d, _, h⟩ := List.mem_flatMap.1 hv
  simp only [PD.cells, PD.v, List.mem_cons, List.not_mem_nil, or_false] at h
  rcases h with rfl | rfl | rfl | rfl <;> rfl
theorem PcAt.cells {w : World} {ad : Addr} {D : List PD} (h : PcAt w (some ad) D) : ∀ j u, (pdCells D)[j]? = some u → w.cell? (ad.add j) = some u := by
  intro j v hv
  rcases h with rfl | ⟨b, off, e, _, h⟩
  · simp [pdCells] at hv
  · cases e
    have hj : j < D.length * 4 := by
      rw [← pdCells_length]
      exact (List.getElem?_eq_some_iff.1 hv).1
    obtain ⟨g0, g1, g2, g3⟩ := pdCells_get D (j / 4) (by omega)
    obtain ⟨c0, c1, c2, c3, _⟩ := h (j / 4) (by omega)
    have ha : (⟨b, off, none⟩ : Addr).add j = ⟨b, off + j, none⟩ := by simp [Addr.add]
    rw [ha]
    rcases (by omega : j = j / 4 * 4 ∨ j = j / 4 * 4 + 1 ∨ j = j / 4 * 4 + 2 ∨ j = j / 4 * 4 + 3) with e | e | e | e
    · rw [e] at hv ⊢
      rw [← hv, g0]; exact c0
    · rw [e] at hv ⊢
      rw [← hv, g1]; exact c1
    · rw [e] at hv ⊢
      rw [← hv, g2]; exact c2
    · rw [e] at hv ⊢
      rw [← hv, g3]; exact c3
theorem PcAt.some {w : World} {ao : Option Addr} {D : List PD} (h : PcAt w ao D) (h0 : 0 < D.length) : ao ≠ none := by
  rcases h with rfl | ⟨b, off, e, _⟩
  · exact absurd h0 (Nat.lt_irrefl _)
  · rw [e]; exact fun h => by cases h
theorem PcAt.sets {w : World} {ao : Option Addr} {D : List PD} (h : PcAt w ao D) : ∀ d ∈ D, SpAt w d.so d.p.set := by
  intro d hd
  rcases h with rfl | ⟨b, off, _, _, h⟩
  · cases hd
  · obtain ⟨i, hi, rfl⟩ := List.getElem_of_mem hd
    exact (h i hi).2.2.2.2
theorem PcAt.of_row {w : World} {base : Nat} {v : Value} {D : List PD} (h : w.ownsRow base 44 4 v D.length (pdCells D)) (hs : ∀ d ∈ D, SpAt w d.so d.p.set) : ∃ ao cap, v = .slice ao D.length cap ∧ PcAt w ao D := by
  rcases h.2 with ⟨rfl, hn⟩ | ⟨g, cap, cur, rfl, hb, hg, hnc, _⟩
  · exact ⟨none, 0, by rw [hn], .inl (List.eq_nil_of_length_eq_zero hn)⟩
  · refine ⟨_, cap, rfl, .inr ⟨g, 0, rfl, lt_of_block hg, fun i hi => ?_⟩⟩
    obtain ⟨g0, g1, g2, g3⟩ := pdCells_get D i hi
    rw [Nat.zero_add, World.ownsRow.cellAt h (i * 4) (by omega), World.ownsRow.cellAt h (i * 4 + 1) (by omega), World.ownsRow.cellAt h (i * 4 + 2) (by omega), World.ownsRow.cellAt h (i * 4 + 3) (by omega)]
    exact ⟨g0, g1, g2, g3, hs _ (List.getElem_mem hi)⟩
theorem ext_take (s : By) (k : Nat) : (⟨s.toArray⟩ : ByteArray).extract 0 k = ⟨(s.take k).toArray⟩ := by
  apply ByteArray.ext
  simp
theorem ext_drop (s : By) (k : Nat) : (⟨s.toArray⟩ : ByteArray).extract k s.length = ⟨(s.drop k).toArray⟩ := by
  apply ByteArray.ext
  simp
  rw [List.take_of_length_le (by simp)]
theorem set_short : ∀ (L : List Spn) (x : Int), IsSet L → (∀ s ∈ L, x ≤ s.1 ∧ s.2 ≤ 126) → x ≤ 127 → (L.length : Int) + x ≤ 127
  | [], x, _, _, hx => by simpa using hx
  | s :: L, x, h, hs, hx => by
    have h1 := hs s (by simp)
    have h2 := h.head
    unfold Bnd at h2
    cases L with
    | nil => simp; omega
    | cons t L =>
      have h3 := (List.pairwise_cons.1 h.2).1
      have ht := hs t (by simp)
      have ht2 := h.1 t (by simp)
      have ht3 := h3 t (by simp)
      unfold Bnd at ht2
      have ih := set_short (t :: L) (x + 2) h.tail (fun u hu => ⟨by have := h3 u hu; omega, (hs u (List.mem_cons_of_mem _ hu)).2⟩) (by omega)
      simp only [List.length_cons] at ih ⊢
      omega
/-- A right set of bytes is short. -/
theorem right_set_len {L : List Pc} (h : Rt L) : ∀ p ∈ L, p.set.length ≤ 4294967296 := by
  intro p hp
  rcases h.2.1 p hp with h | h | h
  · rw [h.2.2.2.2]; decide
  · rw [h.2.2.2]; decide
  · have h1 := set_short p.set 32 h.2.2.1 h.2.2.2.2 (by decide)
    omega
theorem matchOk_any (ao : Option Addr) (cap : Nat) (D : List PD) (s : By) (w : World) (hs : s.length ≤ 140737488351232) (hR : Rt (D.map PD.p)) (hat : PcAt w ao D) :
    Calls Try.prog 19 #[.slice ao D.length cap, .string ⟨s.toArray⟩] w fun e w' => e = .returned (.tuple #[.bool (mtF (D.map PD.p) s (D.map PD.p).length), .int .i64 0]) ∧ Below w.heap.size w w' :=
  (match_any ao cap D s w hs (fun d hd => by have := right_set_len hR d.p (List.mem_map.2 ⟨d, hd, rfl⟩); omega) hat).mono fun e w' ⟨h, x⟩ => by
    rcases h with ⟨_, h⟩ | ⟨h, _⟩
    · exact ⟨h, x⟩
    · exact absurd hR h
end Go.Proofs.Ytaiijdnfimclbaa
