/-
  The statements' kept by its contract: lent pieces that stayed. Condition: there are at most 2^32 pieces, and as many spans.
-/
import Derived.Test.YtaiijdnfimclbaaLnt
import Derived.Test.YtaiijdnfimclbaaSme
namespace Go.Proofs.Ytaiijdnfimclbaa
open Go.RowKit Go.Lib

/-- Lent pieces. -/
structure LnQ (w : World) (g : Nat) (E : List PD) (t : Int) (W : World) : Prop where
  row : W.heap[g]? = some (.cells (pdCells E ++ tl t).toArray 44 (0, 0))
  all : ∀ e ∈ E, LnE g W e
  bel : Below g w W
theorem LnS.q {w : World} {g : Nat} {D E : List PD} {t : Int} {W : World} (h : LnS w g D E D.length t W) : LnQ w g E t W ∧ E.map PD.p = D.map PD.p := by
  refine ⟨⟨h.row, fun e he => ?_, h.bel⟩, ?_⟩
  · obtain ⟨i, hi, rfl⟩ := List.getElem_of_mem he
    exact (h.done i hi (by rw [← h.len]; exact hi) (by rw [← h.len]; exact hi)).2
  · apply List.ext_getElem
    · rw [List.length_map, List.length_map, h.len]
    · intro i h1 h2
      rw [List.length_map] at h1 h2
      rw [List.getElem_map, List.getElem_map]
      exact (h.done i h1 h2 h2).1
theorem LnQ.at {w : World} {g : Nat} {E : List PD} {t : Int} {W : World} (h : LnQ w g E t W) : PcAt W (some ⟨g, 0, none⟩) E := by
  refine .inr ⟨g, 0, rfl, lt_of_block h.row, fun i hi => ?_⟩
  obtain ⟨g0, g1, g2, g3⟩ := pdCells_get E i hi
  have hl := pdCells_length E
  have hc : ∀ j, j < E.length * 4 → W.cell? ⟨g, j, none⟩ = (pdCells E)[j]? := fun j hj => by
    rw [cell_of_row _ _ _ _ _ _ h.row]
    simp only [List.getElem?_toArray]
    rw [List.getElem?_append_left (by rw [hl]; exact hj)]
  rw [Nat.zero_add]
  exact ⟨(hc _ (by omega)).trans g0, (hc _ (by omega)).trans g1, (hc _ (by omega)).trans g2, (hc _ (by omega)).trans g3, (h.all _ (List.getElem_mem hi)).at⟩
theorem LnQ.next {w : World} {g : Nat} {E : List PD} {t : Int} {W W' : World} (h : LnQ w g E t W) (hw : g ≤ w.heap.size) (x : Below W.heap.size W W') : LnQ w g E t W' :=
  ⟨(x.block _ (lt_of_block h.row)).trans h.row, fun e he => (h.all e he).kept (Kept.of_below x), bt h.bel x hw⟩
theorem LnQ.put {w : World} {g : Nat} {E : List PD} {t : Int} {W : World} (h : LnQ w g E t W) (i : Nat) {d : PD} (hd : LnE g W d) : LnQ w g (E.set i d) t (W.setRow g (pdCells (E.set i d) ++ tl t).toArray) := by
  have hk2 : Kept (fun i => i = g) W (W.setRow g (pdCells (E.set i d) ++ tl t).toArray) := kept_row
  refine ⟨setRow_heap _ _ _ _ _ _ h.row, fun e he => ?_, h.bel.trans (hk2.below (Nat.le_of_lt (lt_of_block h.row)) (fun i hi => by omega))⟩
  rcases List.mem_or_eq_of_mem_set he with h1 | h1
  · exact (h.all e h1).kept hk2
  · rw [h1]; exact hd.kept hk2
theorem LnQ.tail {w : World} {g : Nat} {E : List PD} {t : Int} {W : World} (h : LnQ w g E t W) : W.cell? ⟨g, E.length * 4, none⟩ = some (.int .i64 t) := by
  have hl := pdCells_length E
  rw [cell_of_row _ _ _ _ _ _ h.row]
  simp only [List.getElem?_toArray]
  rw [List.getElem?_append_right (by rw [hl]; exact Nat.le_refl _), hl, Nat.sub_self]
  rfl
set_option maxRecDepth 100000 in
set_option maxHeartbeats 8000000 in
theorem kept_any (ao : Option Addr) (cap g : Nat) (D E : List PD) (w0 w : World) (hl : D.length ≤ 4294967296) (hLen : ∀ d ∈ D, d.p.set.length ≤ 4294967296) (hat : PcAt w ao D) (hS : LnQ w0 g E (-77) w) (he : E.map PD.p = D.map PD.p) (hg : g ≤ w0.heap.size) :
    Calls Try.prog 21 #[.slice (some ⟨g, 0, none⟩) D.length (D.length + 1), .slice ao D.length cap] w fun e w' => e = .returned (.bool true) ∧ Below w.heap.size w w' := by
  have hll : E.length = D.length := by have := congrArg List.length he; simpa using this
  have hLE : ∀ d ∈ E, d.p.set.length ≤ 140737488351232 := fun d hd => by
    have h1 : d.p ∈ D.map PD.p := by rw [← he]; exact List.mem_map.2 ⟨d, hd, rfl⟩
    obtain ⟨d', h2, h3⟩ := List.mem_map.1 h1
    have := hLen d' h2
    rw [← h3]
    omega
  have hsm := same_any (some ⟨g, 0, none⟩) ao (D.length + 1) cap E D w (by omega) hLE he hS.at hat
  rw [hll] at hsm
  have HSM := hide hsm
  have HAT := hide hat
  have HS := hide hS
  have HG := hide hg
  have HE := hide he
  have HLL := hide hll
  have HLEN := hide hLen
  clear hat hS hg he hll hLen hLE hsm
  have hn1 : (D.length : Int) < (D.length : Int) + 1 := by omega
  have hn2 : (D.length : Int) + 1 ≤ (D.length : Int) + 1 := by omega
  go_enter Try.func21, Try.ntmps21
  go_wp2_with (go_at_call 12; refine HSM.out.mono ?_; rintro e w1 ⟨rfl, x1⟩; have X1 := hide x1; have S1 := hide (HS.out.next HG.out x1); have c0 := S1.out.tail; rw [HLL.out] at c0; have hgl := lt_of_block S1.out.row; clear x1)
  go_loopw [6] (fun x wr => ∃ k : Nat, k ≤ D.length ∧ x = .int .i64 k ∧ Hid (Below w.heap.size w wr)) (fun x _ => D.length - (RowKit.intOf x).toNat)
  case atStart => exact ⟨0, Nat.zero_le _, rfl, X1⟩
  case round =>
    obtain ⟨k, hk, rfl, X⟩ := hrel
    rename World => wr
    clear c0 hgl S1 X1
    by_cases hlt : k < D.length
    · have hlt' : (k : Int) < (D.length : Int) := by omega
      have hkE : k < E.length := by rw [HLL.out]; exact hlt
      rcases HAT.out with h | ⟨b1, o1, rfl, hb1, hc1⟩
      · rw [h] at hlt; simp at hlt
      have r3 := (X.out.cell (p := ⟨b1, o1 + k * 4 + 3, none⟩) hb1).trans (hc1 k hlt).2.2.2.1
      have S2 := hide (HS.out.next HG.out X.out)
      obtain ⟨b, eb, c77, esc, hbl⟩ := (S2.out.all _ (List.getElem_mem hkE)).last
      have v3 : wr.cell? ⟨g, k * 4 + 3, none⟩ = some (.slice E[k].so E[k].p.set.length E[k].sc) := by
        rcases S2.out.at with h | ⟨b2, o2, h2, _, hc2⟩
        · rw [h] at hkE; simp at hkE
        · injection h2 with h2; injection h2 with h3 h4; subst h3 h4
          have := (hc2 k hkE).2.2.2.1
          rwa [Nat.zero_add] at this
      have hpe : E[k].p = D[k].p := by
        have h3 := getD_mapz E k hkE
        rw [HE.out, getD_mapz D k hlt] at h3
        exact h3.symm
      rw [eb, esc, hpe] at v3
      rw [hpe] at c77
      have hgl := lt_of_block S2.out.row
      have hbw := Nat.lt_of_lt_of_le hb1 X.out.size
      have hdl : D[k].p.set.length ≤ 4294967296 := HLEN.out _ (List.getElem_mem hlt)
      clear hc1 eb esc hpe
      generalize D[k] = d at *
      have m1 : (d.p.set.length : Int) < (d.p.set.length : Int) + 1 := by omega
      have m2 : (d.p.set.length : Int) + 1 ≤ (d.p.set.length : Int) + 1 := by omega
      go_wp2
      go_roundw
      case rel => exact ⟨k + 1, by omega, by go_num, X⟩
      case measure => simp [RowKit.intOf]; omega
    · have hnl : ¬ (k : Int) < (D.length : Int) := by omega
      go_wp2
      go_ret
      exact ⟨rfl, X.out⟩
end Go.Proofs.Ytaiijdnfimclbaa
