/-
  Depth, over, operators, holds by their contracts. Condition: a condition that is neither deep nor wide.
-/
import Derived.Test.YtlmhofjiobmodaaGreatDoorQ09
namespace Go.Proofs.YtlmhofjiobmodaaGreatDoor
open Go.RowKit Go.Lib

/-- Eight cells of a block, stored. -/
theorem st8 {W : World} {P : Nat} {t : TypeId} {x0 x1 x2 x3 x4 x5 x6 x7 : Value} (h : W.heap[P]? = some (.cells #[x0, x1, x2, x3, x4, x5, x6, x7] t (0, 0))) (y0 y1 y2 y3 y4 y5 y6 y7 : Value) :
    (∃ u, W.cell? ⟨P, 0, none⟩ = some u) ∧ W.frozen? ⟨P, 0, none⟩ = false ∧ (∃ u, (W.setCell ⟨P, 0, none⟩ y0).cell? ⟨P, 1, none⟩ = some u) ∧ (W.setCell ⟨P, 0, none⟩ y0).frozen? ⟨P, 1, none⟩ = false ∧ (∃ u, ((W.setCell ⟨P, 0, none⟩ y0).setCell ⟨P, 1, none⟩ y1).cell? ⟨P, 2, none⟩ = some u) ∧ ((W.setCell ⟨P, 0, none⟩ y0).setCell ⟨P, 1, none⟩ y1).frozen? ⟨P, 2, none⟩ = false ∧ (∃ u, (((W.setCell ⟨P, 0, none⟩ y0).setCell ⟨P, 1, none⟩ y1).setCell ⟨P, 2, none⟩ y2).cell? ⟨P, 3, none⟩ = some u) ∧ (((W.setCell ⟨P, 0, none⟩ y0).setCell ⟨P, 1, none⟩ y1).setCell ⟨P, 2, none⟩ y2).frozen? ⟨P, 3, none⟩ = false ∧ (∃ u, ((((W.setCell ⟨P, 0, none⟩ y0).setCell ⟨P, 1, none⟩ y1).setCell ⟨P, 2, none⟩ y2).setCell ⟨P, 3, none⟩ y3).cell? ⟨P, 4, none⟩ = some u) ∧ ((((W.setCell ⟨P, 0, none⟩ y0).setCell ⟨P, 1, none⟩ y1).setCell ⟨P, 2, none⟩ y2).setCell ⟨P, 3, none⟩ y3).frozen? ⟨P, 4, none⟩ = false ∧ (∃ u, (((((W.setCell ⟨P, 0, none⟩ y0).setCell ⟨P, 1, none⟩ y1).setCell ⟨P, 2, none⟩ y2).setCell ⟨P, 3, none⟩ y3).setCell ⟨P, 4, none⟩ y4).cell? ⟨P, 5, none⟩ = some u) ∧ (((((W.setCell ⟨P, 0, none⟩ y0).setCell ⟨P, 1, none⟩ y1).setCell ⟨P, 2, none⟩ y2).setCell ⟨P, 3, none⟩ y3).setCell ⟨P, 4, none⟩ y4).frozen? ⟨P, 5, none⟩ = false ∧ (∃ u, ((((((W.setCell ⟨P, 0, none⟩ y0).setCell ⟨P, 1, none⟩ y1).setCell ⟨P, 2, none⟩ y2).setCell ⟨P, 3, none⟩ y3).setCell ⟨P, 4, none⟩ y4).setCell ⟨P, 5, none⟩ y5).cell? ⟨P, 6, none⟩ = some u) ∧ ((((((W.setCell ⟨P, 0, none⟩ y0).setCell ⟨P, 1, none⟩ y1).setCell ⟨P, 2, none⟩ y2).setCell ⟨P, 3, none⟩ y3).setCell ⟨P, 4, none⟩ y4).setCell ⟨P, 5, none⟩ y5).frozen? ⟨P, 6, none⟩ = false ∧ (∃ u, (((((((W.setCell ⟨P, 0, none⟩ y0).setCell ⟨P, 1, none⟩ y1).setCell ⟨P, 2, none⟩ y2).setCell ⟨P, 3, none⟩ y3).setCell ⟨P, 4, none⟩ y4).setCell ⟨P, 5, none⟩ y5).setCell ⟨P, 6, none⟩ y6).cell? ⟨P, 7, none⟩ = some u) ∧ (((((((W.setCell ⟨P, 0, none⟩ y0).setCell ⟨P, 1, none⟩ y1).setCell ⟨P, 2, none⟩ y2).setCell ⟨P, 3, none⟩ y3).setCell ⟨P, 4, none⟩ y4).setCell ⟨P, 5, none⟩ y5).setCell ⟨P, 6, none⟩ y6).frozen? ⟨P, 7, none⟩ = false ∧ ((((((((W.setCell ⟨P, 0, none⟩ y0).setCell ⟨P, 1, none⟩ y1).setCell ⟨P, 2, none⟩ y2).setCell ⟨P, 3, none⟩ y3).setCell ⟨P, 4, none⟩ y4).setCell ⟨P, 5, none⟩ y5).setCell ⟨P, 6, none⟩ y6).setCell ⟨P, 7, none⟩ y7).heap[P]? = some (.cells #[y0, y1, y2, y3, y4, y5, y6, y7] t (0, 0)) ∧ Kept (fun k => k = P) W ((((((((W.setCell ⟨P, 0, none⟩ y0).setCell ⟨P, 1, none⟩ y1).setCell ⟨P, 2, none⟩ y2).setCell ⟨P, 3, none⟩ y3).setCell ⟨P, 4, none⟩ y4).setCell ⟨P, 5, none⟩ y5).setCell ⟨P, 6, none⟩ y6).setCell ⟨P, 7, none⟩ y7) := by
  have h0 : (W.setCell ⟨P, 0, none⟩ y0).heap[P]? = some (.cells #[y0, x1, x2, x3, x4, x5, x6, x7] t (0, 0)) := by
    have := block_setCell' h 0 y0
    simpa using this
  have h1 : ((W.setCell ⟨P, 0, none⟩ y0).setCell ⟨P, 1, none⟩ y1).heap[P]? = some (.cells #[y0, y1, x2, x3, x4, x5, x6, x7] t (0, 0)) := by
    have := block_setCell' h0 1 y1
    simpa using this
  have h2 : (((W.setCell ⟨P, 0, none⟩ y0).setCell ⟨P, 1, none⟩ y1).setCell ⟨P, 2, none⟩ y2).heap[P]? = some (.cells #[y0, y1, y2, x3, x4, x5, x6, x7] t (0, 0)) := by
    have := block_setCell' h1 2 y2
    simpa using this
  have h3 : ((((W.setCell ⟨P, 0, none⟩ y0).setCell ⟨P, 1, none⟩ y1).setCell ⟨P, 2, none⟩ y2).setCell ⟨P, 3, none⟩ y3).heap[P]? = some (.cells #[y0, y1, y2, y3, x4, x5, x6, x7] t (0, 0)) := by
    have := block_setCell' h2 3 y3
    simpa using this
  have h4 : (((((W.setCell ⟨P, 0, none⟩ y0).setCell ⟨P, 1, none⟩ y1).setCell ⟨P, 2, none⟩ y2).setCell ⟨P, 3, none⟩ y3).setCell ⟨P, 4, none⟩ y4).heap[P]? = some (.cells #[y0, y1, y2, y3, y4, x5, x6, x7] t (0, 0)) := by
    have := block_setCell' h3 4 y4
    simpa using this
  have h5 : ((((((W.setCell ⟨P, 0, none⟩ y0).setCell ⟨P, 1, none⟩ y1).setCell ⟨P, 2, none⟩ y2).setCell ⟨P, 3, none⟩ y3).setCell ⟨P, 4, none⟩ y4).setCell ⟨P, 5, none⟩ y5).heap[P]? = some (.cells #[y0, y1, y2, y3, y4, y5, x6, x7] t (0, 0)) := by
    have := block_setCell' h4 5 y5
    simpa using this
  have h6 : (((((((W.setCell ⟨P, 0, none⟩ y0).setCell ⟨P, 1, none⟩ y1).setCell ⟨P, 2, none⟩ y2).setCell ⟨P, 3, none⟩ y3).setCell ⟨P, 4, none⟩ y4).setCell ⟨P, 5, none⟩ y5).setCell ⟨P, 6, none⟩ y6).heap[P]? = some (.cells #[y0, y1, y2, y3, y4, y5, y6, x7] t (0, 0)) := by
    have := block_setCell' h5 6 y6
    simpa using this
  have h7 : ((((((((W.setCell ⟨P, 0, none⟩ y0).setCell ⟨P, 1, none⟩ y1).setCell ⟨P, 2, none⟩ y2).setCell ⟨P, 3, none⟩ y3).setCell ⟨P, 4, none⟩ y4).setCell ⟨P, 5, none⟩ y5).setCell ⟨P, 6, none⟩ y6).setCell ⟨P, 7, none⟩ y7).heap[P]? = some (.cells #[y0, y1, y2, y3, y4, y5, y6, y7] t (0, 0)) := by
    have := block_setCell' h6 7 y7
    simpa using this
  have ks : ∀ (V : World) (j : Nat) (u : Value), Kept (fun k => k = P) V (V.setCell ⟨P, j, none⟩ u) := fun V j u => Kept.setCell (F := fun k => k = P) (p := ⟨P, j, none⟩) (Kept.refl _ _) rfl u
  refine ⟨⟨_, by rw [cell_of_row _ _ _ _ _ _ h]; rfl⟩, frozen_of_row _ _ _ _ _ h, ⟨_, by rw [cell_of_row _ _ _ _ _ _ h0]; rfl⟩, frozen_of_row _ _ _ _ _ h0, ⟨_, by rw [cell_of_row _ _ _ _ _ _ h1]; rfl⟩, frozen_of_row _ _ _ _ _ h1, ⟨_, by rw [cell_of_row _ _ _ _ _ _ h2]; rfl⟩, frozen_of_row _ _ _ _ _ h2, ⟨_, by rw [cell_of_row _ _ _ _ _ _ h3]; rfl⟩, frozen_of_row _ _ _ _ _ h3, ⟨_, by rw [cell_of_row _ _ _ _ _ _ h4]; rfl⟩, frozen_of_row _ _ _ _ _ h4, ⟨_, by rw [cell_of_row _ _ _ _ _ _ h5]; rfl⟩, frozen_of_row _ _ _ _ _ h5, ⟨_, by rw [cell_of_row _ _ _ _ _ _ h6]; rfl⟩, frozen_of_row _ _ _ _ _ h6, h7, (((((((ks _ _ _).trans (ks _ _ _)).trans (ks _ _ _)).trans (ks _ _ _)).trans (ks _ _ _)).trans (ks _ _ _)).trans (ks _ _ _)).trans (ks _ _ _)⟩
theorem ld8 {W : World} {P : Nat} {t : TypeId} {f : Nat × Nat} {y0 y1 y2 y3 y4 y5 y6 y7 : Value} (h : W.heap[P]? = some (.cells #[y0, y1, y2, y3, y4, y5, y6, y7] t f)) : W.cell? ⟨P, 0, none⟩ = some y0 ∧ W.cell? ⟨P, 1, none⟩ = some y1 ∧ W.cell? ⟨P, 2, none⟩ = some y2 ∧ W.cell? ⟨P, 3, none⟩ = some y3 ∧ W.cell? ⟨P, 4, none⟩ = some y4 ∧ W.cell? ⟨P, 5, none⟩ = some y5 ∧ W.cell? ⟨P, 6, none⟩ = some y6 ∧ W.cell? ⟨P, 7, none⟩ = some y7 :=
  ⟨by rw [cell_of_row _ _ _ _ _ _ h]; rfl, by rw [cell_of_row _ _ _ _ _ _ h]; rfl, by rw [cell_of_row _ _ _ _ _ _ h]; rfl, by rw [cell_of_row _ _ _ _ _ _ h]; rfl, by rw [cell_of_row _ _ _ _ _ _ h]; rfl, by rw [cell_of_row _ _ _ _ _ _ h]; rfl, by rw [cell_of_row _ _ _ _ _ _ h]; rfl, by rw [cell_of_row _ _ _ _ _ _ h]; rfl⟩
/-- The eight cells one by one. -/
theorem CtAt.eight {w : World} {base : Nat} {c : CT} {vs : List Value} {bs : List Nat} (h : CtAt w base c vs bs) : ∃ a3 c3 a4 c4 a5 c5 a6 c6, vs = [.int .i64 c.k, .string ⟨c.nm.toArray⟩, .string ⟨c.tx.toArray⟩, .slice a3 c.pre.length c3, .slice a4 c.sp.length c4, .slice a5 c.ns.length c5, .slice a6 c.kids.length c6, .int .i64 c.p] := by
  cases c with
  | mk k nm tx pre sp ns kids p =>
    unfold CtAt at h
    obtain ⟨v3, v4, v5, v6, cs, ks, h1, h2, h3, h4, h5, _⟩ := h
    obtain ⟨a3, c3, e3, _⟩ := own_shape h2
    obtain ⟨a4, c4, e4, _⟩ := own_shape h3
    obtain ⟨a5, c5, e5, _⟩ := own_shape h4
    obtain ⟨a6, c6, e6, _⟩ := own_shape h5
    exact ⟨a3, c3, a4, c4, a5, c5, a6, c6, by rw [h1, e3, e4, e5, e6]; rfl⟩
theorem CtAt.kidsRow {w : World} {base : Nat} {c : CT} {v0 v1 v2 v3 v4 v5 v6 v7 : Value} {bs : List Nat} (h : CtAt w base c [v0, v1, v2, v3, v4, v5, v6, v7] bs) : ∃ cs ks, w.ownsRow base 60 8 v6 c.kids.length cs ∧ KidsAt w base c.kids cs ks ∧ ∀ k ∈ ks, k ∈ bs := by
  cases c with
  | mk k nm tx pre sp ns kids p =>
    unfold CtAt at h
    obtain ⟨w3, w4, w5, w6, cs, ks, h1, _, _, _, h5, h6, h7⟩ := h
    cases h1
    refine ⟨cs, ks, h5, h6, fun k hk => ?_⟩
    rw [h7]
    simp [hk]
theorem KidsAt.len {w : World} {base : Nat} : ∀ {l : List CT} {cs : List Value} {ks : List Nat}, KidsAt w base l cs ks → cs.length = l.length * 8
  | [], cs, ks, h => by
    obtain ⟨h1, _⟩ := h
    rw [h1]; rfl
  | c :: l, cs, ks, h => by
    obtain ⟨vs, bs, cs', ks', h1, h2, h3, h4⟩ := h
    rw [h1, List.length_append, h3.len, KidsAt.len h4, List.length_cons]
    omega
theorem KidsAt.get {w : World} {base : Nat} : ∀ {l : List CT} {cs : List Value} {ks : List Nat} (_ : KidsAt w base l cs ks) (i : Nat) (hi : i < l.length), ∃ vs bs, CtAt w base l[i] vs bs ∧ (∀ r, r < 8 → cs[i * 8 + r]? = vs[r]?) ∧ ∀ k ∈ bs, k ∈ ks
  | [], cs, ks, h, i, hi => by simp at hi
  | c :: l, cs, ks, h, 0, hi => by
    obtain ⟨vs, bs, cs', ks', h1, h2, h3, h4⟩ := h
    refine ⟨vs, bs, h3, fun r hr => ?_, fun k hk => by rw [h2]; simp [hk]⟩
    rw [h1, List.getElem?_append_left (by rw [h3.len]; omega), Nat.zero_mul, Nat.zero_add]
  | c :: l, cs, ks, h, i + 1, hi => by
    obtain ⟨vs, bs, cs', ks', h1, h2, h3, h4⟩ := h
    obtain ⟨vs2, bs2, q1, q2, q3⟩ := KidsAt.get h4 i (by simpa using hi)
    refine ⟨vs2, bs2, q1, fun r hr => ?_, fun k hk => by rw [h2]; simp [q3 k hk]⟩
    rw [h1, List.getElem?_append_right (by rw [h3.len]; omega), h3.len, show (i + 1) * 8 + r - 8 = i * 8 + r by omega]
    exact q2 r hr
set_option maxRecDepth 100000 in
set_option maxHeartbeats 2000000 in
theorem depth_any : ∀ (n : Nat) (c : CT) (w : World) (base : Nat) (vs : List Value) (bs : List Nat), dpt c ≤ n → n ≤ 1048576 → Nrw 1048576 c → CtAt w base c vs bs → Calls Tryz.prog 182 #[.agg vs.toArray] w fun e w' => e = .returned (.int .i64 (dpt c : Nat)) ∧ Below w.heap.size w w'
  | 0, c, w, base, vs, bs, h, _, _, _ => by rw [dpt_kids] at h; omega
  | n + 1, c, w, base, vs, bs, hd, hn, hw, hc => by
    have IH := hide (fun c w base vs bs h1 h2 h3 => depth_any n c w base vs bs h1 (by omega) h2 h3)
    obtain ⟨a3, c3, a4, c4, a5, c5, a6, c6, rfl⟩ := hc.eight
    obtain ⟨cs, ks, ho, hks, _⟩ := hc.kidsRow
    obtain ⟨hk1, hk2⟩ := hw.kids
    have HD : Hid (∀ k ∈ c.kids, dpt k ≤ n) := dptL_le.1 (by have := dpt_kids c; omega)
    have HW := hide hk2
    have HE := hide (dpt_kids c)
    have HDN : Hid (dpt c ≤ 1048576) := by unfold Hid; omega
    obtain ⟨ck, hck⟩ : ∃ ck, ck = c.k := ⟨_, rfl⟩
    obtain ⟨cn, hcn⟩ : ∃ cn, cn = c.nm := ⟨_, rfl⟩
    obtain ⟨ct, hct⟩ : ∃ ct, ct = c.tx := ⟨_, rfl⟩
    obtain ⟨cp, hcp⟩ : ∃ cp, cp = c.p := ⟨_, rfl⟩
    obtain ⟨n3, hn3⟩ : ∃ n, n = c.pre.length := ⟨_, rfl⟩
    obtain ⟨n4, hn4⟩ : ∃ n, n = c.sp.length := ⟨_, rfl⟩
    obtain ⟨n5, hn5⟩ : ∃ n, n = c.ns.length := ⟨_, rfl⟩
    rw [← hck, ← hcn, ← hct, ← hcp, ← hn3, ← hn4, ← hn5]
    clear hck hcn hct hcp hn3 hn4 hn5 hc hw hd hk2 hn
    generalize dpt c = D at *
    generalize c.kids = KS at *
    obtain ⟨W, hW⟩ : ∃ W, W = w.alloc (.cells #[.int .i64 ck, .string ⟨cn.toArray⟩, .string ⟨ct.toArray⟩, .slice a3 n3 c3, .slice a4 n4 c4, .slice a5 n5 c5, .slice a6 KS.length c6, .int .i64 cp] 60) := ⟨_, rfl⟩
    have XW := hide (show Below w.heap.size w W by rw [hW]; exact al (Below.refl _ _) _)
    have HB := hide (show W.heap[w.heap.size]? = some (.cells #[.int .i64 ck, .string ⟨cn.toArray⟩, .string ⟨ct.toArray⟩, .slice a3 n3 c3, .slice a4 n4 c4, .slice a5 n5 c5, .slice a6 KS.length c6, .int .i64 cp] 60 (0, 0)) by rw [hW]; exact heap_alloc_new w _)
    have HO := hide (own_below ho XW.out)
    have HK := hide (hks.below XW.out)
    have HL := hide hk1
    clear ho hks hk1
    have HAV : Hid (0 < KS.length → ∃ b, a6 = some ⟨b, 0, none⟩) := by
      obtain ⟨av, cv, hv6, hav⟩ := own_shape HO.out
      cases hv6
      exact hav
    have c6 : W.cell? ⟨w.heap.size, 6, none⟩ = some (.slice a6 KS.length c6) := by rw [cell_of_row _ _ _ _ _ _ HB.out]; rfl
    go_enter Tryz.func182, Tryz.ntmps182
    go_upto_region 1 with fail
    rw [← hW]
    clear hW
    go_wp2
    clear c6 HB
    go_loopg [3, 9] (KS.length + 1) (fun gg x y wr => ∃ k : Nat, y = .int .i64 (k : Nat) ∧ x = .int .i64 (dpt.dptL (KS.take k) : Nat) ∧ k ≤ KS.length ∧ Hid (Below W.heap.size W wr) ∧ KS.length - k < gg)
    case atStart => exact ⟨0, rfl, rfl, by omega, hide (Below.refl _ _), by omega⟩
    case round =>
      obtain ⟨k, rfl, rfl, hk1, XR, hg⟩ := hrel
      have HG := hide hg
      clear hg
      by_cases hk : k < KS.length
      · have hk' : (k : Int) < (KS.length : Int) := by omega
        have ho := own_below HO.out XR.out
        have hkd := HK.out.below XR.out
        obtain ⟨us, bs2, hcu, hcell, _⟩ := hkd.get k hk
        obtain ⟨d3, e3, d4, e4, d5, e5, d6, e6, rfl⟩ := hcu.eight
        have HT := hide (dptL_take KS k hk)
        have HDK := hide (HD.out _ (List.getElem_mem hk))
        have HWK := hide (HW.out _ (List.getElem_mem hk))
        have HCU := hide hcu
        clear hcu
        obtain ⟨kd, hkdd⟩ : ∃ kd, kd = KS[k] := ⟨_, rfl⟩
        rw [← hkdd] at HT HDK HWK HCU hcell
        clear hkdd hkd
        obtain ⟨b, rfl⟩ : ∃ b, a6 = some ⟨b, 0, none⟩ := HAV.out (by omega)
        have hcl : ∀ r, r < 8 → wr.cell? ⟨b, k * 8 + r, none⟩ = [.int .i64 kd.k, .string ⟨kd.nm.toArray⟩, .string ⟨kd.tx.toArray⟩, .slice d3 kd.pre.length e3, .slice d4 kd.sp.length e4, .slice d5 kd.ns.length e5, .slice d6 kd.kids.length e6, .int .i64 kd.p][r]? := fun r hr => by
          rw [World.ownsRow.cellAt ho (k * 8 + r) (by omega), hcell r hr]
        have q0 := hcl 0 (by omega)
        have q1 := hcl 1 (by omega)
        have q2 := hcl 2 (by omega)
        have q3 := hcl 3 (by omega)
        have q4 := hcl 4 (by omega)
        have q5 := hcl 5 (by omega)
        have q6 := hcl 6 (by omega)
        have q7 := hcl 7 (by omega)
        simp only [List.getElem?_cons_zero, List.getElem?_cons_succ, Nat.add_zero] at q0 q1 q2 q3 q4 q5 q6 q7
        clear hcl hcell ho
        have HSB := hide (heap_alloc_new wr (.cells #[.int .i64 kd.k, .string ⟨kd.nm.toArray⟩, .string ⟨kd.tx.toArray⟩, .slice d3 kd.pre.length e3, .slice d4 kd.sp.length e4, .slice d5 kd.ns.length e5, .slice d6 kd.kids.length e6, .int .i64 kd.p] 60))
        have XK : Hid (Below wr.heap.size wr (wr.alloc (.cells #[.int .i64 kd.k, .string ⟨kd.nm.toArray⟩, .string ⟨kd.tx.toArray⟩, .slice d3 kd.pre.length e3, .slice d4 kd.sp.length e4, .slice d5 kd.ns.length e5, .slice d6 kd.kids.length e6, .int .i64 kd.p] 60))) := al (Below.refl _ _) _
        have HIX := hide (IH.out kd (wr.alloc (.cells #[.int .i64 kd.k, .string ⟨kd.nm.toArray⟩, .string ⟨kd.tx.toArray⟩, .slice d3 kd.pre.length e3, .slice d4 kd.sp.length e4, .slice d5 kd.ns.length e5, .slice d6 kd.kids.length e6, .int .i64 kd.p] 60)) base _ bs2 HDK.out HWK.out (HCU.out.below XK.out))
        go_upto_region 5 with fail
        clear q0 q1 q2 q3 q4 q5 q6 q7
        generalize wr.alloc (.cells #[.int .i64 kd.k, .string ⟨kd.nm.toArray⟩, .string ⟨kd.tx.toArray⟩, .slice d3 kd.pre.length e3, .slice d4 kd.sp.length e4, .slice d5 kd.ns.length e5, .slice d6 kd.kids.length e6, .int .i64 kd.p] 60) = wk at *
        obtain ⟨q0, q1, q2, q3, q4, q5, q6, q7⟩ := ld8 HSB.out
        have XK2 := hide (bt XR.out XK.out (Nat.le_refl _))
        generalize dpt kd = dk at *
        have HMX : Hid (max ((dpt.dptL (KS.take k) : Nat) : Int) ((dk : Nat) : Int) = ((dpt.dptL (KS.take (k + 1)) : Nat) : Int)) := by unfold Hid; rw [HT.out]; omega
        generalize dpt.dptL (KS.take k) = dd at *
        have fw : IntKind.i64.wrap ((k : Int) + 1) = ((k + 1 : Nat) : Int) := by have := HL.out; simp [IntKind.wrap, IntKind.bits, IntKind.signed]; omega
        go_wp2_with (go_at_call 182; refine HIX.out.mono ?_; rintro e w4 ⟨rfl, x4⟩; have X4 := hide (bt XK2.out x4 (Nat.le_refl _)); clear x4)
        go_roundg (KS.length - (k + 1) + 1)
        case measure => have := HG.out; omega
        case rel => exact ⟨k + 1, by first | rfl | (rw [show wrap64 ((k : Int) + 1) = ((k + 1 : Nat) : Int) from fw]), by rw [HMX.out], by omega, X4, by omega⟩
      · have hk' : ¬ (k : Int) < (KS.length : Int) := by omega
        obtain rfl : k = KS.length := by omega
        rw [List.take_length]
        have HDD : Hid (dpt.dptL KS + 1 = D) := HE.out.symm
        have fw : IntKind.i64.wrap (((dpt.dptL KS : Nat) : Int) + 1) = ((dpt.dptL KS : Nat) : Int) + 1 := by have := HDN.out; have := HDD.out; simp [IntKind.wrap, IntKind.bits, IntKind.signed]; omega
        go_wp2
        go_ret
        exact ⟨by rw [← HDD.out]; rfl, bt XW.out XR.out (Nat.le_refl _)⟩
end Go.Proofs.YtlmhofjiobmodaaGreatDoor
/-
  The writer's list, whatever writes its parts; what it does with each span. Condition: that keeps its own contract.
-/
namespace Go.Proofs.YtlmhofjiobmodaaGreatDoor
open Go.RowKit Go.Lib

mutual
theorem CtAt.ty {w : World} {base : Nat} : ∀ {c : CT} {vs : List Value} {bs : List Nat}, CtAt w base c vs bs → ∀ k ∈ bs, ∃ cs t f, w.heap[k]? = some (.cells cs t f) ∧ t ≠ 5 ∧ t ≠ 120
  | .mk k nm tx pre sp ns kids p, vs, bs, h => by
    unfold CtAt at h
    obtain ⟨v3, v4, v5, v6, cs, ks, h1, h2, h3, h4, h5, h6, h7⟩ := h
    intro j hj
    rw [h7] at hj
    simp only [List.mem_append, mem_blk] at hj
    rcases hj with hj | hj | hj | hj | hj
    · obtain ⟨c, hc⟩ := own_ty h2 j hj
      exact ⟨c, _, _, hc, by decide, by decide⟩
    · obtain ⟨c, hc⟩ := own_ty h3 j hj
      exact ⟨c, _, _, hc, by decide, by decide⟩
    · obtain ⟨c, hc⟩ := own_ty h4 j hj
      exact ⟨c, _, _, hc, by decide, by decide⟩
    · obtain ⟨c, hc⟩ := own_ty h5 j hj
      exact ⟨c, _, _, hc, by decide, by decide⟩
    · exact KidsAt.ty h6 j hj
theorem KidsAt.ty {w : World} {base : Nat} : ∀ {l : List CT} {cs : List Value} {ks : List Nat}, KidsAt w base l cs ks → ∀ k ∈ ks, ∃ cs t f, w.heap[k]? = some (.cells cs t f) ∧ t ≠ 5 ∧ t ≠ 120
  | [], cs, ks, h => by
    obtain ⟨_, rfl⟩ := h
    intro k hk
    cases hk
  | c :: l, cs, ks, h => by
    obtain ⟨vs, bs, cs', ks', h1, h2, h3, h4⟩ := h
    intro k hk
    rw [h2, List.mem_append] at hk
    rcases hk with hk | hk
    · exact CtAt.ty h3 k hk
    · exact KidsAt.ty h4 k hk
end
theorem CtAt.kpo {w w' : World} {base b0 wp : Nat} {c : CT} {vs : List Value} {bs : List Nat} {s : By} {pt : Bool} (h : CtAt w b0 c vs bs) (hw : WrA w base wp s pt) (k : KpO 5 base wp w w') : CtAt w' b0 c vs bs := by
  refine CtAt.kept k c vs bs h (fun j hj hf => ?_)
  obtain ⟨cs, t, f, h1, h2, h3⟩ := CtAt.ty h j hj
  rcases hf with e | ⟨_, c', f', e⟩
  · exact hw.ne h1 h3 e
  · rw [h1] at e
    injection e with e
    injection e with _ e _
    exact h2 e
theorem KpO.ownS {base b0 wp size n : Nat} {w w' : World} {e : TypeId} {v : Value} {xs : List Value} {s : By} {pt : Bool} (h : KpO 5 base wp w w') (ho : w.ownsRow b0 e size v n xs) (he : e ≠ 5 ∧ e ≠ 120) (hw : WrA w base wp s pt) : w'.ownsRow b0 e size v n xs :=
  KpO.own h ho he.1 (fun k hk e' => by
    obtain ⟨c, hc⟩ := own_ty ho k hk
    exact hw.ne hc he.2 e')
def partsI (part : Nat → WS → Option WS) : Nat → Nat → WS → Option WS
  | 0, _, s => some s
  | k + 1, i, s => (if i = 0 then some s else othW [44] s).bind fun a => (part i a).bind fun b => partsI part k (i + 1) b
def lstW (part : Nat → WS → Option WS) (n : Nat) (s : WS) : Option WS := if 1 ≤ n ∧ n ≤ 32 then (wrdW wIn s).bind fun a => (othW [123] a).bind fun b => (partsI part n 0 b).bind fun c => othW [125] c else none
set_option maxRecDepth 100000 in
set_option maxHeartbeats 4000000 in
theorem wlist_ok {w : World} {base wp : Nat} {s x : WS} {n : Nat} {part : Nat → WS → Option WS} {cl : Nat} {caps : List Value} (I : World → Prop) (hI : ∀ a b s pt, WrA a base wp s pt → KpO 5 base wp a b → I a → I b) (hE : ∀ args w, (callFunc cl args).run Tryz.prog w = .ok (.enter cl args) w)
    (hc : ∀ (W : World) (s x : WS) (i : Nat), i < n → WrA W base wp s.1 s.2 → I W → part i s = some x → Calls Tryz.prog cl (.int .i64 (i : Nat) :: caps).toArray W (PostW base wp W x))
    (h : WrA w base wp s.1 s.2) (hI0 : I w) (hx : lstW part n s = some x) : Calls Tryz.prog 167 #[.pointer (some ⟨wp, 0, none⟩), .int .i64 (n : Nat), .func (.func cl) #[] caps.toArray] w (PostW base wp w x) := by
  unfold lstW at hx
  have hn : 1 ≤ n ∧ n ≤ 32 := Decidable.byContradiction fun h => by rw [if_neg h] at hx; cases hx
  rw [if_pos hn] at hx
  obtain ⟨a, ha, hx⟩ := Option.bind_eq_some_iff.1 hx
  obtain ⟨b, hb, hx⟩ := Option.bind_eq_some_iff.1 hx
  obtain ⟨c, hcc, hx⟩ := Option.bind_eq_some_iff.1 hx
  have HM := hide must_ok
  have h1 : (1 : Int) ≤ (n : Int) := by omega
  have h2 : (n : Int) ≤ 32 := by omega
  have HW := hide (word_ok h ha)
  have HO := hide (fun w1 (r : WrA w1 base wp a.1 a.2) => other_ok r hb)
  have HF := hide (fun w1 (r : WrA w1 base wp c.1 c.2) => other_ok r hx)
  have HC := hide hc
  have HI := hide hI
  have I0 := hide hI0
  have R0 := hide h
  have HPI := hide hcc
  have HNN := hide hn
  clear hx ha hb hcc hc hI hI0 h hn
  go_enter Tryz.func167, Tryz.ntmps167
  go_upto_region 1 with (go_at_call 65; refine (HM.out _).mono ?_; rintro e w2 ⟨rfl, hw⟩; have hw2 := hw.symm; clear hw; subst hw2)
  have hwn : (⟨wIn.toArray⟩ : ByteArray) = ⟨#[105, 110]⟩ := rfl
  rw [hwn] at HW
  go_upto_region 2 with (go_at_call 103; refine HW.out.mono ?_; rintro e w1 ⟨rfl, r1, x1⟩; have R1 := hide r1; have X1 := hide x1; clear r1 x1)
  clear HW h1 h2
  go_upto_region 3 with (go_at_call 105; refine (HO.out _ R1.out).mono ?_; rintro e w2 ⟨rfl, r2, x2⟩; have R2 := hide r2; have X2 := hide (X1.out.trans x2); clear r2 x2)
  have I2 := hide (HI.out _ _ _ _ R0.out X2.out I0.out)
  clear HO R1 X1
  go_wp2
  go_loopg [6, 19] (n + 1) (fun gg x6 x19 wr => ∃ (k i : Nat) (y : WS), x19 = .int .i64 (i : Nat) ∧ i + k = n ∧ Hid (partsI part k i y = some c) ∧ Hid (WrA wr base wp y.1 y.2) ∧ Hid (I wr) ∧ Hid (KpO 5 base wp w wr) ∧ k < gg)
  case atStart => exact ⟨n, 0, b, rfl, by omega, HPI, R2, I2, X2, by omega⟩
  case round =>
    clear HPI R2 I2 X2 R0 I0
    obtain ⟨k, i, y, rfl, hik, HP, RR, IR, XR, hg⟩ := hrel
    have HG := hide hg
    have HIK := hide hik
    clear hg hik
    cases k with
    | zero =>
      have hlt : ¬ (i : Int) < (n : Int) := by have := HIK.out; omega
      obtain rfl : y = c := Option.some.inj HP.out
      go_wp2_with (go_at_call 105; refine (HF.out _ RR.out).mono ?_; rintro e w3 ⟨rfl, r3, x3⟩; have R3 := hide r3; have X3 := hide (XR.out.trans x3); clear r3 x3)
      go_end0
      exact ⟨rfl, R3.out, X3.out⟩
    | succ k =>
      have hlt : (i : Int) < (n : Int) := by have := HIK.out; omega
      obtain ⟨a1, ha1, hx1⟩ := Option.bind_eq_some_iff.1 HP.out
      obtain ⟨b1, hb1, hx1⟩ := Option.bind_eq_some_iff.1 hx1
      have HX1 := hide hx1
      have fw : IntKind.i64.wrap ((i : Int) + 1) = ((i + 1 : Nat) : Int) := by have := HNN.out; have := HIK.out; simp [IntKind.wrap, IntKind.bits, IntKind.signed]; omega
      have HCC := hide (fun w1 (r : WrA w1 base wp a1.1 a1.2) (j : I w1) => HC.out w1 a1 b1 i (by have := HIK.out; omega) r j hb1)
      clear hx1 hb1 HP
      by_cases h0 : i = 0
      · subst h0
        rw [if_pos rfl] at ha1
        obtain rfl := Option.some.inj ha1
        clear ha1
        have hgt : ¬ ((0 : Nat) : Int) > 0 := by omega
        go_wp2_with (fail)
        refine (HCC.out _ RR.out IR.out).mono ?_
        rintro e w3 ⟨rfl, r3, x3⟩
        have R3 := hide r3
        have I3 := hide (HI.out _ _ _ _ RR.out x3 IR.out)
        have X3 := hide (XR.out.trans x3)
        clear r3 x3
        go_wp2
        go_roundg (k + 1)
        case measure => have := HG.out; omega
        case rel => exact ⟨k, 0 + 1, b1, by first | rfl | (rw [show wrap64 (((0 : Nat) : Int) + 1) = ((0 + 1 : Nat) : Int) from fw]), by have := HIK.out; omega, HX1, R3, I3, X3, by omega⟩
      · rw [if_neg h0] at ha1
        have hgt : (0 : Int) < (i : Int) := by omega
        have HO := hide (fun w1 (r : WrA w1 base wp y.1 y.2) => other_ok r ha1)
        clear ha1
        go_upto_region 8 with (go_at_call 105; refine (HO.out _ RR.out).mono ?_; rintro e w2 ⟨rfl, r2, x2⟩; have R2 := hide r2; have X2 := hide x2; clear r2 x2)
        have I2 := hide (HI.out _ _ _ _ RR.out X2.out IR.out)
        go_wp2_with (fail)
        refine (HCC.out _ R2.out I2.out).mono ?_
        rintro e w3 ⟨rfl, r3, x3⟩
        have R3 := hide r3
        have I3 := hide (HI.out _ _ _ _ R2.out x3 I2.out)
        have X3 := hide (XR.out.trans (X2.out.trans x3))
        clear r3 x3
        go_wp2
        go_roundg (k + 1)
        case measure => have := HG.out; omega
        case rel => exact ⟨k, i + 1, b1, by first | rfl | (rw [show wrap64 ((i : Int) + 1) = ((i + 1 : Nat) : Int) from fw]), by have := HIK.out; omega, HX1, R3, I3, X3, by omega⟩
end Go.Proofs.YtlmhofjiobmodaaGreatDoor
