/-
  labelPairs by its contract: both labels of each pair of states. Condition: at most 65536 pairs, of states that are.
-/
import Derived.Test.YtdgoilkgplnhfaaGreatB20
import Derived.Test.YtdgoilkgplnhfaaGreatB21
namespace Go.Proofs.YtdgoilkgplnhfaaGreat
open Go.RowKit Go.Lib

theorem spCells_set (L : List Spn) (i : Nat) (p : Spn) (hi : i < L.length) : ((spCells L).set (i * 2) (.int .i64 p.1)).set (i * 2 + 1) (.int .i64 p.2) = spCells (L.set i p) := by
  apply List.ext_getElem?
  intro j
  by_cases hj : j < L.length * 2
  · have h2 : j / 2 < L.length := by omega
    obtain ⟨a1, a2⟩ := spCells_get L (j / 2) h2
    obtain ⟨b1, b2⟩ := spCells_get (L.set i p) (j / 2) (by rw [List.length_set]; exact h2)
    have hg : (L.set i p).getD (j / 2) (0, 0) = if i = j / 2 then p else L.getD (j / 2) (0, 0) := by
      simp only [List.getD_eq_getElem?_getD, List.getElem?_set, hi]
      by_cases e : i = j / 2 <;> simp [e, h2]
    rw [hg] at b1 b2
    rw [List.getElem?_set, List.getElem?_set, List.length_set, spCells_length]
    rcases Nat.mod_two_eq_zero_or_one j with hm | hm
    · rw [show j / 2 * 2 = j by omega] at a1 b1
      rw [b1]
      by_cases e : i = j / 2
      · rw [if_neg (by omega), if_pos (by omega), if_pos e, if_pos (by omega)]
      · rw [if_neg (by omega), if_neg (by omega), if_neg e]
        exact a1
    · rw [show j / 2 * 2 + 1 = j by omega] at a2 b2
      rw [b2]
      by_cases e : i = j / 2
      · rw [if_pos (by omega), if_pos e, if_pos (by omega)]
      · rw [if_neg (by omega), if_neg (by omega), if_neg e]
        exact a2
  · rw [List.getElem?_eq_none (by rw [List.length_set, List.length_set, spCells_length]; omega), List.getElem?_eq_none (by rw [spCells_length, List.length_set]; omega)]
theorem OwnQ.put {w : World} {base g cap n : Nat} {L : List Spn} (h : OwnQ w base (.slice (some ⟨g, 0, none⟩) n cap) L) (i : Nat) (p : Spn) (hi : i < L.length) : OwnQ ((w.setCell ⟨g, i * 2, none⟩ (.int .i64 p.1)).setCell ⟨g, i * 2 + 1, none⟩ (.int .i64 p.2)) base (.slice (some ⟨g, 0, none⟩) n cap) (L.set i p) ∧ Kept (fun k => k = g) w ((w.setCell ⟨g, i * 2, none⟩ (.int .i64 p.1)).setCell ⟨g, i * 2 + 1, none⟩ (.int .i64 p.2)) := by
  have hh : w.ownsRow base 48 2 (.slice (some ⟨g, 0, none⟩) n cap) L.length (spCells L) := h
  have hn : n = L.length := by
    rcases hh.2 with ⟨e, e2⟩ | ⟨g', c', cur, e, _⟩
    · cases e
    · injection e with _ e2 _
  subst hn
  obtain ⟨h1, h2⟩ := hh.stored (i * 2) (.int .i64 p.1)
  obtain ⟨h3, h4⟩ := h1.stored (i * 2 + 1) (.int .i64 p.2)
  refine ⟨?_, ((kept_of_grown h2).mono (fun k hk => by injection hk with hk; exact hk.symm)).trans ((kept_of_grown h4).mono (fun k hk => by injection hk with hk; exact hk.symm))⟩
  unfold OwnQ
  rw [List.length_set, ← spCells_set L i p hi]
  exact h3
theorem made_pairs (n : Nat) : (madeCells (Value.agg #[.int .i64 0, .int .i64 0]).cells (n * 2)).toList = spCells (List.replicate n (0, 0)) := by
  apply List.ext_getElem?
  intro j
  by_cases hj : j < n * 2
  · have h2 : j / 2 < n := by omega
    obtain ⟨a1, a2⟩ := spCells_get (List.replicate n ((0, 0) : Spn)) (j / 2) (by simpa using h2)
    have e0 : (madeCells (Value.agg #[.int .i64 0, .int .i64 0]).cells (n * 2)).toList[j]? = some (.int .i64 0) := by
      rcases Nat.mod_two_eq_zero_or_one j with hm | hm <;> simp [madeCells, Value.cells, hj, hm]
    rw [e0]
    rcases Nat.mod_two_eq_zero_or_one j with hm | hm
    · rw [show j / 2 * 2 = j by omega] at a1
      rw [a1]
      simp [List.getD_eq_getElem?_getD, h2]
    · rw [show j / 2 * 2 + 1 = j by omega] at a2
      rw [a2]
      simp [List.getD_eq_getElem?_getD, h2]
  · rw [List.getElem?_eq_none (by simp [madeCells]; omega), List.getElem?_eq_none (by rw [spCells_length]; simp; omega)]
/-- The labels of pairs of states. -/
def lpL (OA OB : List Nat) (St : List (Nat × Nat)) : List Spn := St.map fun p => (((gN OA p.1 : Nat) : Int), ((gN OB p.2 : Nat) : Int))
theorem lpL_len (OA OB : List Nat) (St : List (Nat × Nat)) : (lpL OA OB St).length = St.length := by simp [lpL]
set_option maxRecDepth 100000 in
set_option maxHeartbeats 8000000 in
theorem labelPairs_any (bsA bsB : By) (xA oA xB oB : Option Addr) (nA nB xAc oAc xBc oBc sg sc b0 : Nat) (OA OB : List Nat) (St : List (Nat × Nat)) (w : World) (hn : St.length ≤ 65536) (hst : ∀ p ∈ St, p.1 < OA.length ∧ p.2 < OB.length) (hkA : NAt w oA OA) (hkB : NAt w oB OB) (ho : w.ownsRow b0 101 2 (.slice (some ⟨sg, 0, none⟩) St.length sc) St.length (oC prV St)) :
    Calls Tryz.prog 59 #[auV bsA xA nA xAc oA OA.length oAc, auV bsB xB nB xBc oB OB.length oBc, .slice (some ⟨sg, 0, none⟩) St.length sc] w fun e w' => (∃ g, e = .returned (.slice (some ⟨g, 0, none⟩) St.length St.length) ∧ OwnQ w' w.heap.size (.slice (some ⟨g, 0, none⟩) St.length St.length) (lpL OA OB St)) ∧ Below w.heap.size w w' := by
  obtain ⟨i0, hi0, hz0, hz1, hz2⟩ := info_parts Tryz.info48
  obtain ⟨w2, hw2⟩ : ∃ w2, w2 = (w.alloc (.cells #[.string ⟨bsA.toArray⟩, .slice xA nA xAc, .slice oA OA.length oAc] 24)).alloc (.cells #[.string ⟨bsB.toArray⟩, .slice xB nB xBc, .slice oB OB.length oBc] 24) := ⟨_, rfl⟩
  obtain ⟨X2, B1, B2, hs2⟩ := two_alloc' w #[.string ⟨bsA.toArray⟩, .slice xA nA xAc, .slice oA OA.length oAc] #[.string ⟨bsB.toArray⟩, .slice xB nB xBc, .slice oB OB.length oBc] 24 24
  rw [← hw2] at X2 B1 B2 hs2
  have HC : Hid (∀ V, Below w2.heap.size w2 V → (V.cell? ⟨w.heap.size, 2, none⟩ = some (.slice oA OA.length oAc) ∧ V.cell? ⟨w.heap.size + 1, 2, none⟩ = some (.slice oB OB.length oBc)) ∧ NAt V oA OA ∧ NAt V oB OB ∧ V.ownsRow b0 101 2 (.slice (some ⟨sg, 0, none⟩) St.length sc) St.length (oC prV St)) := fun V x => by
    have Bv := (x.block _ (lt_of_block B1)).trans B1
    have Bw := (x.block _ (lt_of_block B2)).trans B2
    exact ⟨⟨by rw [cell_of_row _ _ _ _ _ _ Bv]; rfl, by rw [cell_of_row _ _ _ _ _ _ Bw]; rfl⟩, hkA.below (bt X2 x (Nat.le_refl _)), hkB.below (bt X2 x (Nat.le_refl _)), own_below ho (bt X2 x (Nat.le_refl _))⟩
  have HX2 := hide X2
  have HST := hide hst
  have HKA := hide hkA
  have HKB := hide hkB
  obtain ⟨P0, hP0⟩ : ∃ P, Hid (P = lpL OA OB St) := ⟨_, rfl⟩
  have hPl : P0.length = St.length := by rw [hP0.out, lpL_len]
  have HBS : Hid (w.heap.size + 2 = w2.heap.size) := hs2.symm
  clear X2 B1 B2 hs2 hkA hkB ho hst
  unfold auV
  go_enter Tryz.func59, Tryz.ntmps59
  go_upto_region 1 with fail
  rw [← hw2]
  clear hw2
  go_wp2_with (at_make; refine wpList_make_full _ rfl (.tmp 11) (.tmp 11) 44 rfl w2.heap.size 48 i0 (.agg #[.int .i64 0, .int .i64 0]) 2 Tryz.underlying44 hi0 hz0 hz1 .i64 .i64 _ _ St.length rfl rfl rfl rfl (by rw [hz2]; omega) (by unfold maxLen; omega) (Nat.le_refl _) ?_; intro wm h1 h2; have XM0 := hide (below_of_grown h2); have OM0 : Hid (OwnQ wm w2.heap.size (.slice (some ⟨w2.heap.size, 0, none⟩) St.length St.length) (P0.take 0 ++ List.replicate (St.length - 0) (0, 0))) := (by unfold Hid OwnQ; rw [made_pairs] at h1; simpa using h1); clear h1 h2)
  go_loopg [15] (St.length + 1) (fun g x wr => ∃ i : Nat, x = .int .i64 (i : Nat) ∧ i ≤ St.length ∧ Hid (OwnQ wr w2.heap.size (.slice (some ⟨w2.heap.size, 0, none⟩) St.length St.length) (P0.take i ++ List.replicate (St.length - i) (0, 0))) ∧ Hid (Below w2.heap.size w2 wr) ∧ St.length - i < g)
  case atStart => exact ⟨0, rfl, by omega, OM0, XM0, by omega⟩
  case round =>
    obtain ⟨i, rfl, hi1, O, XB, hg⟩ := hrel
    have HG := hide hg
    clear hg OM0 XM0
    by_cases hi : i < St.length
    · have hi' : (i : Int) < (St.length : Int) := by omega
      obtain ⟨p, hp⟩ : ∃ p, Hid (p = St[i]) := ⟨St[i], hide rfl⟩
      obtain ⟨hp1, hp2⟩ := HST.out _ (List.getElem_mem hi)
      rw [← hp.out] at hp1 hp2
      have X4 := hide (bt XB.out (al (Below.refl wr.heap.size wr) (.cells #[.int .i64 (p.1 : Int), .int .i64 (p.2 : Int)] 101)) (Nat.le_refl _))
      obtain ⟨_, _, _, hrow⟩ := HC.out wr XB.out
      have s0 : wr.cell? ⟨sg, i * 2, none⟩ = some (.int .i64 (p.1 : Int)) := by
        have := oC_get (val := prV) (K := 2) St (fun _ _ => rfl) i hi 0 (by decide)
        rw [Nat.add_zero, ← hp.out] at this
        exact (hrow.cellAt (i * 2) (by omega)).trans this
      have s1 : wr.cell? ⟨sg, i * 2 + 1, none⟩ = some (.int .i64 (p.2 : Int)) := by
        have := oC_get (val := prV) (K := 2) St (fun _ _ => rfl) i hi 1 (by decide)
        rw [← hp.out] at this
        exact (hrow.cellAt (i * 2 + 1) (by omega)).trans this
      obtain ⟨⟨c0, c1⟩, kA, kB, _⟩ := HC.out _ X4.out
      obtain ⟨ab, ao, hoA, hab, ca⟩ := HKA.out.get hp1
      obtain ⟨bb, bo, hoB, hbb, cb⟩ := HKB.out.get hp2
      subst hoA hoB
      rw [← gN_lt hp1] at ca
      rw [← gN_lt hp2] at cb
      have ca := ((bt HX2.out X4.out (Nat.le_refl _)).cell (p := ⟨ab, ao + p.1, none⟩) hab).trans ca
      have cb := ((bt HX2.out X4.out (Nat.le_refl _)).cell (p := ⟨bb, bo + p.2, none⟩) hbb).trans cb
      have hB4 := heap_alloc_new wr (.cells #[.int .i64 (p.1 : Int), .int .i64 (p.2 : Int)] 101)
      have t0 := cell_of_row _ _ 0 _ _ _ hB4
      have t1 := cell_of_row _ _ 1 _ _ _ hB4
      have O4 : OwnQ (wr.alloc (.cells #[.int .i64 (p.1 : Int), .int .i64 (p.2 : Int)] 101)) w2.heap.size (.slice (some ⟨w2.heap.size, 0, none⟩) St.length St.length) (P0.take i ++ List.replicate (St.length - i) (0, 0)) := own_below O.out (al (Below.refl _ _) _)
      obtain ⟨w4, hw4⟩ : ∃ w4, w4 = wr.alloc (.cells #[.int .i64 (p.1 : Int), .int .i64 (p.2 : Int)] 101) := ⟨_, rfl⟩
      rw [← hw4] at X4 c0 c1 ca cb t0 t1 O4
      have hll : (P0.take i ++ List.replicate (St.length - i) ((0, 0) : Spn)).length = St.length := by simp; omega
      have hP0l : i < P0.length := by omega
      have e3 : (P0.take i ++ List.replicate (St.length - i) ((0, 0) : Spn)).set i P0[i] = P0.take (i + 1) ++ List.replicate (St.length - (i + 1)) (0, 0) := by
        rw [List.set_append_right _ _ (by simp; omega), List.take_succ_eq_append_getElem hP0l, List.append_assoc]
        congr 1
        obtain ⟨q, hq⟩ : ∃ q, St.length - i = q + 1 := ⟨St.length - i - 1, by omega⟩
        rw [hq, show St.length - (i + 1) = q by omega, show i - (P0.take i).length = 0 by simp; omega]
        rfl
      have hP0i : P0[i] = (((gN OA p.1 : Nat) : Int), ((gN OB p.2 : Nat) : Int)) := by
        have h9 : P0[i]? = some (((gN OA p.1 : Nat) : Int), ((gN OB p.2 : Nat) : Int)) := by
          rw [hP0.out, hp.out]
          simp [lpL, hi]
        rw [List.getElem?_eq_getElem hP0l] at h9
        injection h9
      clear hrow kA kB hB4
      have hog := (World.ownsRow.lt (show wr.ownsRow w2.heap.size 48 2 (.slice (some ⟨w2.heap.size, 0, none⟩) St.length St.length) _ (spCells _) from O.out) w2.heap.size rfl).2
      have hw4s : w4.heap.size = wr.heap.size + 1 := by rw [hw4]; simp
      have hbs := HBS.out
      have HSK : Hid (∀ V, Kept (fun k => k = w2.heap.size) w4 V → V.cell? ⟨w.heap.size, 2, none⟩ = some (.slice (some ⟨ab, ao, none⟩) OA.length oAc) ∧ V.cell? ⟨w.heap.size + 1, 2, none⟩ = some (.slice (some ⟨bb, bo, none⟩) OB.length oBc) ∧ V.cell? ⟨wr.heap.size, 0, none⟩ = some (.int .i64 (p.1 : Int)) ∧ V.cell? ⟨wr.heap.size, 1, none⟩ = some (.int .i64 (p.2 : Int)) ∧ V.cell? ⟨ab, ao + p.1, none⟩ = some (.int .i64 ((gN OA p.1 : Nat) : Int)) ∧ V.cell? ⟨bb, bo + p.2, none⟩ = some (.int .i64 ((gN OB p.2 : Nat) : Int))) := fun V k => by
        refine ⟨(k.cell (p := ⟨w.heap.size, 2, none⟩) (show w.heap.size < w4.heap.size by omega) (show ¬ w.heap.size = w2.heap.size by omega)).trans c0, (k.cell (p := ⟨w.heap.size + 1, 2, none⟩) (show w.heap.size + 1 < w4.heap.size by omega) (show ¬ w.heap.size + 1 = w2.heap.size by omega)).trans c1, (k.cell (p := ⟨wr.heap.size, 0, none⟩) (show wr.heap.size < w4.heap.size by omega) (show ¬ wr.heap.size = w2.heap.size by omega)).trans t0, (k.cell (p := ⟨wr.heap.size, 1, none⟩) (show wr.heap.size < w4.heap.size by omega) (show ¬ wr.heap.size = w2.heap.size by omega)).trans t1, (k.cell (p := ⟨ab, ao + p.1, none⟩) (show ab < w4.heap.size by omega) (show ¬ ab = w2.heap.size by omega)).trans ca, (k.cell (p := ⟨bb, bo + p.2, none⟩) (show bb < w4.heap.size by omega) (show ¬ bb = w2.heap.size by omega)).trans cb⟩
      have O4d : OwnQ w4.drew w2.heap.size (.slice (some ⟨w2.heap.size, 0, none⟩) St.length St.length) (P0.take i ++ List.replicate (St.length - i) (0, 0)) := own_below O4 (Below.refl _ _).drew
      obtain ⟨_, _, f0, f1⟩ := O4.cells (i := i) (by omega)
      obtain ⟨y0, y1, _, _⟩ := O4.cells (i := i) (by omega)
      obtain ⟨o5, k5⟩ := O4d.put i P0[i] (by omega)
      rw [e3] at o5
      rw [hP0i] at o5 k5
      have O5 := hide o5
      have K5 := hide k5
      have K4 := hide ((Kept.of_below (F := fun k => k = w2.heap.size) (Below.refl w4.heap.size w4).drew).trans k5)
      have X5 := hide ((bt X4.out (Below.refl _ _).drew (Nat.le_refl _)).trans (k5.below (by have := X4.out.size; exact this) (fun k hk => by omega)))
      have a1 : (p.1 : Int) < (OA.length : Int) := by omega
      have a2 : (p.2 : Int) < (OB.length : Int) := by omega
      clear O4 O4d o5 k5 e3 hP0i hll hP0l hw4s hbs
      generalize gN OA p.1 = la at *
      generalize gN OB p.2 = lb at *
      go_upto_region 5 with fail
      rw [← hw4]
      clear hw4 s0 s1
      go_region_held3 (fun V => V.cell? ⟨w.heap.size, 2, none⟩ = some (.slice (some ⟨ab, ao, none⟩) OA.length oAc) ∧ V.cell? ⟨w.heap.size + 1, 2, none⟩ = some (.slice (some ⟨bb, bo, none⟩) OB.length oBc) ∧ V.cell? ⟨wr.heap.size, 0, none⟩ = some (.int .i64 (p.1 : Int)) ∧ V.cell? ⟨wr.heap.size, 1, none⟩ = some (.int .i64 (p.2 : Int)) ∧ V.cell? ⟨ab, ao + p.1, none⟩ = some (.int .i64 (la : Int)) ∧ V.cell? ⟨bb, bo + p.2, none⟩ = some (.int .i64 (lb : Int))) (first | assumption | exact ⟨c0, c1, t0, t1, ca, cb⟩ | exact HSK.out _ (Kept.of_below (Below.refl _ _).drew) | exact HSK.out _ K4.out) (first | fail)
      all_goals
        go_wp2
        go_roundg (St.length - (i + 1) + 1)
        case measure => have := HG.out; omega
        case rel => exact ⟨i + 1, by first | rfl | go_num | (congr 1; omega), by omega, O5, X5, by omega⟩
    · have hi' : ¬ (i : Int) < (St.length : Int) := by omega
      obtain rfl : i = St.length := by omega
      have o4 : OwnQ wr w2.heap.size (.slice (some ⟨w2.heap.size, 0, none⟩) St.length St.length) P0 := by have := O.out; rwa [Nat.sub_self, List.replicate_zero, List.append_nil, List.take_of_length_le (by omega)] at this
      rw [hP0.out] at o4
      have O5 := hide o4
      have X5 := hide (bt HX2.out XB.out (Nat.le_refl _))
      clear o4
      go_wp2
      go_ret
      refine ⟨⟨_, rfl, ?_⟩, X5.out⟩
      have h9 := O5.out
      refine ⟨h9.1, ?_⟩
      rcases h9.2 with h | ⟨g', c', cur, e, hb, r⟩
      · exact .inl h
      · exact .inr ⟨g', c', cur, e, by have := HBS.out; omega, r⟩
end Go.Proofs.YtdgoilkgplnhfaaGreat
