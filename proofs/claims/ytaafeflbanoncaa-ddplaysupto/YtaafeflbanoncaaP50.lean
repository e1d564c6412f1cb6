/-
  near by its contract: a step whose numbers are of what is there. Condition: what the step brings lies in a process's memory.
-/
import Derived.Test.YtaafeflbanoncaaP37
namespace Go.Proofs.Ytaafeflbanoncaa
open Go.RowKit Go.Lib Go.Maps

theorem results_cell {fn : Func} {p : Tmp} {ty : TypeId} (h : fn.results = #[.cell p ty]) (tmps : Array Value) (P : Program) (w : World) :
    (results fn tmps).run P w = ((asAddr (tmps.getD p undef)).run P w).andThen fun a w₁ => (loadVar ty a).run P w₁ := by
  simp only [results, h]
  simp [Sem.run_bind, Result.andThen]
theorem st9 {W : World} {P : Nat} {t : TypeId} {x0 x1 x2 x3 x4 x5 x6 x7 x8 : Value} (h : W.heap[P]? = some (.cells #[x0, x1, x2, x3, x4, x5, x6, x7, x8] t (0, 0))) (y0 y1 y2 y3 y4 y5 y6 y7 y8 : Value) :
    (∃ u, W.cell? ⟨P, 0, none⟩ = some u) ∧ W.frozen? ⟨P, 0, none⟩ = false ∧ (∃ u, (W.setCell ⟨P, 0, none⟩ y0).cell? ⟨P, 1, none⟩ = some u) ∧ (W.setCell ⟨P, 0, none⟩ y0).frozen? ⟨P, 1, none⟩ = false ∧ (∃ u, ((W.setCell ⟨P, 0, none⟩ y0).setCell ⟨P, 1, none⟩ y1).cell? ⟨P, 2, none⟩ = some u) ∧ ((W.setCell ⟨P, 0, none⟩ y0).setCell ⟨P, 1, none⟩ y1).frozen? ⟨P, 2, none⟩ = false ∧ (∃ u, (((W.setCell ⟨P, 0, none⟩ y0).setCell ⟨P, 1, none⟩ y1).setCell ⟨P, 2, none⟩ y2).cell? ⟨P, 3, none⟩ = some u) ∧ (((W.setCell ⟨P, 0, none⟩ y0).setCell ⟨P, 1, none⟩ y1).setCell ⟨P, 2, none⟩ y2).frozen? ⟨P, 3, none⟩ = false ∧ (∃ u, ((((W.setCell ⟨P, 0, none⟩ y0).setCell ⟨P, 1, none⟩ y1).setCell ⟨P, 2, none⟩ y2).setCell ⟨P, 3, none⟩ y3).cell? ⟨P, 4, none⟩ = some u) ∧ ((((W.setCell ⟨P, 0, none⟩ y0).setCell ⟨P, 1, none⟩ y1).setCell ⟨P, 2, none⟩ y2).setCell ⟨P, 3, none⟩ y3).frozen? ⟨P, 4, none⟩ = false ∧ (∃ u, (((((W.setCell ⟨P, 0, none⟩ y0).setCell ⟨P, 1, none⟩ y1).setCell ⟨P, 2, none⟩ y2).setCell ⟨P, 3, none⟩ y3).setCell ⟨P, 4, none⟩ y4).cell? ⟨P, 5, none⟩ = some u) ∧ (((((W.setCell ⟨P, 0, none⟩ y0).setCell ⟨P, 1, none⟩ y1).setCell ⟨P, 2, none⟩ y2).setCell ⟨P, 3, none⟩ y3).setCell ⟨P, 4, none⟩ y4).frozen? ⟨P, 5, none⟩ = false ∧ (∃ u, ((((((W.setCell ⟨P, 0, none⟩ y0).setCell ⟨P, 1, none⟩ y1).setCell ⟨P, 2, none⟩ y2).setCell ⟨P, 3, none⟩ y3).setCell ⟨P, 4, none⟩ y4).setCell ⟨P, 5, none⟩ y5).cell? ⟨P, 6, none⟩ = some u) ∧ ((((((W.setCell ⟨P, 0, none⟩ y0).setCell ⟨P, 1, none⟩ y1).setCell ⟨P, 2, none⟩ y2).setCell ⟨P, 3, none⟩ y3).setCell ⟨P, 4, none⟩ y4).setCell ⟨P, 5, none⟩ y5).frozen? ⟨P, 6, none⟩ = false ∧ (∃ u, (((((((W.setCell ⟨P, 0, none⟩ y0).setCell ⟨P, 1, none⟩ y1).setCell ⟨P, 2, none⟩ y2).setCell ⟨P, 3, none⟩ y3).setCell ⟨P, 4, none⟩ y4).setCell ⟨P, 5, none⟩ y5).setCell ⟨P, 6, none⟩ y6).cell? ⟨P, 7, none⟩ = some u) ∧ (((((((W.setCell ⟨P, 0, none⟩ y0).setCell ⟨P, 1, none⟩ y1).setCell ⟨P, 2, none⟩ y2).setCell ⟨P, 3, none⟩ y3).setCell ⟨P, 4, none⟩ y4).setCell ⟨P, 5, none⟩ y5).setCell ⟨P, 6, none⟩ y6).frozen? ⟨P, 7, none⟩ = false ∧ (∃ u, ((((((((W.setCell ⟨P, 0, none⟩ y0).setCell ⟨P, 1, none⟩ y1).setCell ⟨P, 2, none⟩ y2).setCell ⟨P, 3, none⟩ y3).setCell ⟨P, 4, none⟩ y4).setCell ⟨P, 5, none⟩ y5).setCell ⟨P, 6, none⟩ y6).setCell ⟨P, 7, none⟩ y7).cell? ⟨P, 8, none⟩ = some u) ∧ ((((((((W.setCell ⟨P, 0, none⟩ y0).setCell ⟨P, 1, none⟩ y1).setCell ⟨P, 2, none⟩ y2).setCell ⟨P, 3, none⟩ y3).setCell ⟨P, 4, none⟩ y4).setCell ⟨P, 5, none⟩ y5).setCell ⟨P, 6, none⟩ y6).setCell ⟨P, 7, none⟩ y7).frozen? ⟨P, 8, none⟩ = false ∧ (((((((((W.setCell ⟨P, 0, none⟩ y0).setCell ⟨P, 1, none⟩ y1).setCell ⟨P, 2, none⟩ y2).setCell ⟨P, 3, none⟩ y3).setCell ⟨P, 4, none⟩ y4).setCell ⟨P, 5, none⟩ y5).setCell ⟨P, 6, none⟩ y6).setCell ⟨P, 7, none⟩ y7).setCell ⟨P, 8, none⟩ y8).heap[P]? = some (.cells #[y0, y1, y2, y3, y4, y5, y6, y7, y8] t (0, 0)) ∧ Kept (fun k => k = P) W (((((((((W.setCell ⟨P, 0, none⟩ y0).setCell ⟨P, 1, none⟩ y1).setCell ⟨P, 2, none⟩ y2).setCell ⟨P, 3, none⟩ y3).setCell ⟨P, 4, none⟩ y4).setCell ⟨P, 5, none⟩ y5).setCell ⟨P, 6, none⟩ y6).setCell ⟨P, 7, none⟩ y7).setCell ⟨P, 8, none⟩ y8) := by
  have h0 : (W.setCell ⟨P, 0, none⟩ y0).heap[P]? = some (.cells #[y0, x1, x2, x3, x4, x5, x6, x7, x8] t (0, 0)) := by
    rw [block_setCell h 0]
    rfl
  have h1 : ((W.setCell ⟨P, 0, none⟩ y0).setCell ⟨P, 1, none⟩ y1).heap[P]? = some (.cells #[y0, y1, x2, x3, x4, x5, x6, x7, x8] t (0, 0)) := by
    rw [block_setCell h0 1]
    rfl
  have h2 : (((W.setCell ⟨P, 0, none⟩ y0).setCell ⟨P, 1, none⟩ y1).setCell ⟨P, 2, none⟩ y2).heap[P]? = some (.cells #[y0, y1, y2, x3, x4, x5, x6, x7, x8] t (0, 0)) := by
    rw [block_setCell h1 2]
    rfl
  have h3 : ((((W.setCell ⟨P, 0, none⟩ y0).setCell ⟨P, 1, none⟩ y1).setCell ⟨P, 2, none⟩ y2).setCell ⟨P, 3, none⟩ y3).heap[P]? = some (.cells #[y0, y1, y2, y3, x4, x5, x6, x7, x8] t (0, 0)) := by
    rw [block_setCell h2 3]
    rfl
  have h4 : (((((W.setCell ⟨P, 0, none⟩ y0).setCell ⟨P, 1, none⟩ y1).setCell ⟨P, 2, none⟩ y2).setCell ⟨P, 3, none⟩ y3).setCell ⟨P, 4, none⟩ y4).heap[P]? = some (.cells #[y0, y1, y2, y3, y4, x5, x6, x7, x8] t (0, 0)) := by
    rw [block_setCell h3 4]
    rfl
  have h5 : ((((((W.setCell ⟨P, 0, none⟩ y0).setCell ⟨P, 1, none⟩ y1).setCell ⟨P, 2, none⟩ y2).setCell ⟨P, 3, none⟩ y3).setCell ⟨P, 4, none⟩ y4).setCell ⟨P, 5, none⟩ y5).heap[P]? = some (.cells #[y0, y1, y2, y3, y4, y5, x6, x7, x8] t (0, 0)) := by
    rw [block_setCell h4 5]
    rfl
  have h6 : (((((((W.setCell ⟨P, 0, none⟩ y0).setCell ⟨P, 1, none⟩ y1).setCell ⟨P, 2, none⟩ y2).setCell ⟨P, 3, none⟩ y3).setCell ⟨P, 4, none⟩ y4).setCell ⟨P, 5, none⟩ y5).setCell ⟨P, 6, none⟩ y6).heap[P]? = some (.cells #[y0, y1, y2, y3, y4, y5, y6, x7, x8] t (0, 0)) := by
    rw [block_setCell h5 6]
    rfl
  have h7 : ((((((((W.setCell ⟨P, 0, none⟩ y0).setCell ⟨P, 1, none⟩ y1).setCell ⟨P, 2, none⟩ y2).setCell ⟨P, 3, none⟩ y3).setCell ⟨P, 4, none⟩ y4).setCell ⟨P, 5, none⟩ y5).setCell ⟨P, 6, none⟩ y6).setCell ⟨P, 7, none⟩ y7).heap[P]? = some (.cells #[y0, y1, y2, y3, y4, y5, y6, y7, x8] t (0, 0)) := by
    rw [block_setCell h6 7]
    rfl
  have h8 : (((((((((W.setCell ⟨P, 0, none⟩ y0).setCell ⟨P, 1, none⟩ y1).setCell ⟨P, 2, none⟩ y2).setCell ⟨P, 3, none⟩ y3).setCell ⟨P, 4, none⟩ y4).setCell ⟨P, 5, none⟩ y5).setCell ⟨P, 6, none⟩ y6).setCell ⟨P, 7, none⟩ y7).setCell ⟨P, 8, none⟩ y8).heap[P]? = some (.cells #[y0, y1, y2, y3, y4, y5, y6, y7, y8] t (0, 0)) := by
    rw [block_setCell h7 8]
    rfl
  have ks : ∀ (V : World) (j : Nat) (u : Value), Kept (fun k => k = P) V (V.setCell ⟨P, j, none⟩ u) := fun V j u => Kept.setCell (F := fun k => k = P) (p := ⟨P, j, none⟩) (Kept.refl _ _) rfl u
  refine ⟨⟨_, by rw [cell_of_row _ _ _ _ _ _ h]; rfl⟩, frozen_of_row _ _ _ _ _ h, ⟨_, by rw [cell_of_row _ _ _ _ _ _ h0]; rfl⟩, frozen_of_row _ _ _ _ _ h0, ⟨_, by rw [cell_of_row _ _ _ _ _ _ h1]; rfl⟩, frozen_of_row _ _ _ _ _ h1, ⟨_, by rw [cell_of_row _ _ _ _ _ _ h2]; rfl⟩, frozen_of_row _ _ _ _ _ h2, ⟨_, by rw [cell_of_row _ _ _ _ _ _ h3]; rfl⟩, frozen_of_row _ _ _ _ _ h3, ⟨_, by rw [cell_of_row _ _ _ _ _ _ h4]; rfl⟩, frozen_of_row _ _ _ _ _ h4, ⟨_, by rw [cell_of_row _ _ _ _ _ _ h5]; rfl⟩, frozen_of_row _ _ _ _ _ h5, ⟨_, by rw [cell_of_row _ _ _ _ _ _ h6]; rfl⟩, frozen_of_row _ _ _ _ _ h6, ⟨_, by rw [cell_of_row _ _ _ _ _ _ h7]; rfl⟩, frozen_of_row _ _ _ _ _ h7, h8, ((((((((ks _ _ _).trans (ks _ _ _)).trans (ks _ _ _)).trans (ks _ _ _)).trans (ks _ _ _)).trans (ks _ _ _)).trans (ks _ _ _)).trans (ks _ _ _)).trans (ks _ _ _)⟩
section
variable {w : World} {wb a x : Nat} {S : List Int} {M : Int} {N : List Nd} {Q : Nat → Prop} {lv : Value}
set_option maxRecDepth 100000 in
set_option maxHeartbeats 8000000 in
theorem near_ok {z : OpZ} {IN : List Bool} {CS : List Int} (h : RA w x S M N Q) (hb : WBk w wb a x lv) (hz : OpIn w z IN CS) :
    Calls Try.prog 9 #[.pointer (some ⟨wb, 0, none⟩), .agg (opA z)] w fun e w' => (∃ z2 IN2 CS2 l c, e = .returned (.agg (opA z2)) ∧ OpNr w' S N z z2 IN2 CS2 l c ∧ (∀ b off, z2.ia = some ⟨b, off, none⟩ → w.heap.size ≤ b) ∧ (∀ b off, z2.ca = some ⟨b, off, none⟩ → w.heap.size ≤ b)) ∧ Below w.heap.size w w' := by
  have hok := h.ok
  have hs12 := hok.sz.le
  have hs1 := hok.sz.ge
  have hfew : N.length ≤ 8192 := by have := hok.few; have := hok.m1; omega
  obtain ⟨zn, zw, zf, zg, zh, zl, zc, ia, il, ic, ca, cl, cc⟩ := z
  obtain ⟨ff, fg, fh, fl, fc, hil, hia, hile, hcl, hca, hcf, hcle⟩ := hz
  simp only at ff fg fh fl fc hil hia hcl hca
  subst hil hcl
  have FIN : Hid (∀ (w' : World) (f g h l c : Nat) (IN2 : List Bool) (CS2 : List Int) ia2 ic2 ca2 cc2, f < N.length + 2 → g < N.length + 2 → h < N.length + 2 → l < S.length → (c : Int) < S.getD l 0 → (IN2.length : Int) = S.getD l 0 → BAt w' ia2 IN2 → ZAt w' ca2 CS2 → PtL S CS2 → Below w.heap.size w w' → (∀ b off, ia2 = some ⟨b, off, none⟩ → w.heap.size ≤ b) → (∀ b off, ca2 = some ⟨b, off, none⟩ → w.heap.size ≤ b) → (∃ z2 I2 C2 l2 c2, Ending.returned (.agg #[.bool zn, .int .i64 zw, .int .i64 (f : Int), .int .i64 (g : Int), .int .i64 (h : Int), .int .i64 (l : Int), .int .i64 (c : Int), .slice ia2 IN2.length ic2, .slice ca2 CS2.length cc2]) = .returned (.agg (opA z2)) ∧ OpNr w' S N ⟨zn, zw, zf, zg, zh, zl, zc, ia, IN.length, ic, ca, CS.length, cc⟩ z2 I2 C2 l2 c2 ∧ (∀ b off, z2.ia = some ⟨b, off, none⟩ → w.heap.size ≤ b) ∧ (∀ b off, z2.ca = some ⟨b, off, none⟩ → w.heap.size ≤ b)) ∧ Below w.heap.size w w') :=
    fun w' f g h l c IN2 CS2 ia2 ic2 ca2 cc2 h1 h2 h3 h4 h5 h6 h7 h8 h9 h10 h11 h12 => ⟨⟨⟨zn, zw, f, g, h, l, c, ia2, IN2.length, ic2, ca2, CS2.length, cc2⟩, IN2, CS2, l, c, rfl, ⟨rfl, rfl, ⟨by show (0 : Int) ≤ (f : Int); omega, by show (f : Int) < _; omega⟩, ⟨by show (0 : Int) ≤ (g : Int); omega, by show (g : Int) < _; omega⟩, ⟨by show (0 : Int) ≤ (h : Int); omega, by show (h : Int) < _; omega⟩, rfl, h4, rfl, h5, h6, rfl, h7, rfl, h8, h9⟩, h11, h12⟩, h10⟩
  obtain ⟨sb, sc, s0, _, s2, hxl⟩ := h.fields
  have HS0 := hide s0
  have HS2 := hide s2
  have LEN := hide (fun W (y : Below w.heap.size w W) => (h.below y).len)
  have HB := hide hb
  have HIA := hide hia
  have HCA := hide hca
  have HCF := hide hcf
  have HSZ := hide hok.sz
  obtain ⟨nn, hnn⟩ : ∃ nn : Nat, nn = N.length + 2 := ⟨_, rfl⟩
  have hwn : IntKind.i64.wrap ((N.length : Int) + 2) = (nn : Int) := by simp [IntKind.wrap, IntKind.bits, IntKind.signed]; omega
  have PF := hide (fun W => pick_any zf nn ff (by omega) (by omega) W)
  have PG := hide (fun W => pick_any zg nn fg (by omega) (by omega) W)
  have PH := hide (fun W => pick_any zh nn fh (by omega) (by omega) W)
  have PL := hide (fun W => pick_any zl S.length fl (by omega) (by omega) W)
  have lf := pkZ_lt zf (n := nn) (by omega)
  have lg := pkZ_lt zg (n := nn) (by omega)
  have lh := pkZ_lt zh (n := nn) (by omega)
  have ll := pkZ_lt zl (n := S.length) (by omega)
  generalize pkZ zf nn = kf at *
  generalize pkZ zg nn = kg at *
  generalize pkZ zh nn = kh at *
  generalize pkZ zl S.length = l at *
  obtain ⟨s, hs⟩ : ∃ s : Nat, S.getD l 0 = (s : Int) := ⟨(S.getD l 0).toNat, by have := (hok.sz.each _ (getD_mem ll)).1; omega⟩
  have hs8 : 1 ≤ s ∧ s ≤ 256 := by have := (hok.sz.each _ (getD_mem ll)); omega
  obtain ⟨hs9, hs256⟩ := hs8
  have PC := hide (fun W => pick_any zc s fc (by omega) (by omega) W)
  have hkc := pkZ_lt zc (n := s) (by omega)
  generalize pkZ zc s = kc at *
  have HS := hide hs
  have HNN := hide hnn
  have ll' : (l : Int) < (S.length : Int) := by omega
  have NUM : Hid (kf < N.length + 2 ∧ kg < N.length + 2 ∧ kh < N.length + 2 ∧ (kc : Int) < S.getD l 0) := ⟨by omega, by omega, by omega, by omega⟩
  obtain ⟨y1, nb1, nb2⟩ := two_blk w #[.bool zn, .int .i64 zw, .int .i64 zf, .int .i64 zg, .int .i64 zh, .int .i64 zl, .int .i64 zc, .slice ia IN.length ic, .slice ca CS.length cc] #[.bool false, .int .i64 0, .int .i64 0, .int .i64 0, .int .i64 0, .int .i64 0, .int .i64 0, .slice none 0 0, .slice none 0 0] 38
  have X1 := hide y1
  have B1 : Hid (Bx ((w.alloc (.cells #[.bool zn, .int .i64 zw, .int .i64 zf, .int .i64 zg, .int .i64 zh, .int .i64 zl, .int .i64 zc, .slice ia IN.length ic, .slice ca CS.length cc] 38)).alloc (.cells #[.bool false, .int .i64 0, .int .i64 0, .int .i64 0, .int .i64 0, .int .i64 0, .int .i64 0, .slice none 0 0, .slice none 0 0] 38)) w.heap.size zn zw zf zg zh zl zc (.slice ia IN.length ic) (.slice ca CS.length cc)) := nb1
  have R1 : Hid (Bx ((w.alloc (.cells #[.bool zn, .int .i64 zw, .int .i64 zf, .int .i64 zg, .int .i64 zh, .int .i64 zl, .int .i64 zc, .slice ia IN.length ic, .slice ca CS.length cc] 38)).alloc (.cells #[.bool false, .int .i64 0, .int .i64 0, .int .i64 0, .int .i64 0, .int .i64 0, .int .i64 0, .slice none 0 0, .slice none 0 0] 38)) (w.heap.size + 1) false 0 0 0 0 0 0 (.slice none 0 0) (.slice none 0 0)) := nb2
  have HCELL : Hid (∀ W, Below w.heap.size w W → W.cell? ⟨wb, 0, none⟩ = some (.pointer (some ⟨a, 0, none⟩)) ∧ W.cell? ⟨wb, 1, none⟩ = some (.pointer (some ⟨x, 0, none⟩)) ∧ W.cell? ⟨x, 0, none⟩ = some (.slice (some ⟨sb, 0, none⟩) S.length sc) ∧ W.cell? ⟨sb, l, none⟩ = some (.int .i64 (s : Int))) := fun W y => by
    have c1 := HB.out.cells
    have hbl : wb < w.heap.size := lt_of_block hb
    refine ⟨(y.cell (p := ⟨wb, 0, none⟩) hbl).trans c1.1, (y.cell (p := ⟨wb, 1, none⟩) hbl).trans c1.2.1, (y.cell (p := ⟨x, 0, none⟩) hxl).trans s0, ?_⟩
    rw [(s2.below y).cell ll, hs]
  have HOBR : Hid (∃ ob rb, ob = w.heap.size ∧ rb = w.heap.size + 1) := ⟨_, _, rfl, rfl⟩
  clear h hb hok hnn hs ff fg fh fl fc hia hca hcf y1 nb1 nb2 s0 s2 hxl hfew
  show Calls Try.prog 9 #[.pointer (some ⟨wb, 0, none⟩), .agg #[.bool zn, .int .i64 zw, .int .i64 zf, .int .i64 zg, .int .i64 zh, .int .i64 zl, .int .i64 zc, .slice ia IN.length ic, .slice ca CS.length cc]] w _
  go_enter Try.func9, Try.ntmps9
  go_upto_region 1 with fail
  generalize (w.alloc (.cells #[.bool zn, .int .i64 zw, .int .i64 zf, .int .i64 zg, .int .i64 zh, .int .i64 zl, .int .i64 zc, .slice ia IN.length ic, .slice ca CS.length cc] 38)).alloc (.cells #[.bool false, .int .i64 0, .int .i64 0, .int .i64 0, .int .i64 0, .int .i64 0, .int .i64 0, .slice none 0 0, .slice none 0 0] 38) = w1 at *
  obtain ⟨ob, rb, hob, hrb⟩ := HOBR.out
  rw [← hrb] at R1
  rw [← hob] at B1
  try rw [← hrb]
  try rw [← hob]
  have HOB : Hid (w.heap.size ≤ ob ∧ w.heap.size ≤ rb ∧ ob ≠ rb) := ⟨by omega, by omega, by omega⟩
  clear hob hrb HOBR
  have W1 := HCELL.out _ X1.out
  obtain ⟨b0, b1, s0, s1⟩ := W1
  go_upto_region 2 with (go_at_call 10; refine (LEN.out _ X1.out).mono ?_; rintro e wq ⟨rfl, hw5⟩; have hw6 := hw5.symm; clear hw5; subst hw6)
  clear b0 b1 s0 s1 hwn LEN
  obtain ⟨o0, o1, o2, o3, o4, o5, o6, o7, o8⟩ := B1.out.cells
  have ff := B1.out.fro 2
  go_upto_region 3 with (go_at_call 15; refine (PF.out _).mono ?_; rintro e wq ⟨rfl, hw5⟩; have hw6 := hw5.symm; clear hw5; subst hw6)
  clear PF
  have B2 := hide (B1.out.setF (kf : Int))
  have X2 := hide (X1.out.setCell (p := ⟨ob, 2, none⟩) HOB.out.1 (.int .i64 (kf : Int)))
  have R2 := hide (R1.out.kept ((Kept.refl (fun b => b = ob) w1).setCell (p := ⟨ob, 2, none⟩) rfl (.int .i64 (kf : Int))) (fun e => HOB.out.2.2 e.symm))
  generalize w1.setCell ⟨ob, 2, none⟩ (.int .i64 (kf : Int)) = w2 at *
  clear B1 X1 R1 o0 o1 o2 o3 o4 o5 o6 o7 o8 ff
  obtain ⟨o0, o1, o2, o3, o4, o5, o6, o7, o8⟩ := B2.out.cells
  have ff := B2.out.fro 3
  go_upto_region 4 with (go_at_call 15; refine (PG.out _).mono ?_; rintro e wq ⟨rfl, hw5⟩; have hw6 := hw5.symm; clear hw5; subst hw6)
  clear PG
  have B3 := hide (B2.out.setG (kg : Int))
  have X3 := hide (X2.out.setCell (p := ⟨ob, 3, none⟩) HOB.out.1 (.int .i64 (kg : Int)))
  have R3 := hide (R2.out.kept ((Kept.refl (fun b => b = ob) w2).setCell (p := ⟨ob, 3, none⟩) rfl (.int .i64 (kg : Int))) (fun e => HOB.out.2.2 e.symm))
  generalize w2.setCell ⟨ob, 3, none⟩ (.int .i64 (kg : Int)) = w3 at *
  clear B2 X2 R2 o0 o1 o2 o3 o4 o5 o6 o7 o8 ff
  obtain ⟨o0, o1, o2, o3, o4, o5, o6, o7, o8⟩ := B3.out.cells
  have ff := B3.out.fro 4
  go_upto_region 5 with (go_at_call 15; refine (PH.out _).mono ?_; rintro e wq ⟨rfl, hw5⟩; have hw6 := hw5.symm; clear hw5; subst hw6)
  clear PH
  have B4 := hide (B3.out.setH (kh : Int))
  have X4 := hide (X3.out.setCell (p := ⟨ob, 4, none⟩) HOB.out.1 (.int .i64 (kh : Int)))
  have R4 := hide (R3.out.kept ((Kept.refl (fun b => b = ob) w3).setCell (p := ⟨ob, 4, none⟩) rfl (.int .i64 (kh : Int))) (fun e => HOB.out.2.2 e.symm))
  generalize w3.setCell ⟨ob, 4, none⟩ (.int .i64 (kh : Int)) = w4 at *
  clear B3 X3 R3 o0 o1 o2 o3 o4 o5 o6 o7 o8 ff
  go_upto_region 5 with fail
  have X5 : Hid (Below w.heap.size w w4.drew) := X4.out.drew
  have B5 : Hid (Bx w4.drew ob zn zw kf kg kh zl zc (.slice ia IN.length ic) (.slice ca CS.length cc)) := B4.out
  have R5 : Hid (Bx w4.drew rb false 0 0 0 0 0 0 (.slice none 0 0) (.slice none 0 0)) := R4.out
  refine wp_unt (S := fun V => V = w4.drew) 12 (by kernel_rfl) ?_
  generalize w4.drew = w5 at *
  clear X4 B4 R4
  obtain ⟨b0, b1, s0, s1⟩ := HCELL.out _ X5.out
  obtain ⟨o0, o1, o2, o3, o4, o5, o6, o7, o8⟩ := B5.out.cells
  have ff := B5.out.fro 5
  refine UntH.take (i := 0) (some 32) rfl rfl (by kernel_rfl) (by kernel_rfl) (by kernel_rfl) (by kernel_rfl) (fun _ _ _ _ h => h) (by rfl) rfl ?_
  apply Exists.intro
  refine ⟨fun w' hw' => ?_, ?_⟩
  · subst hw'
    go_simp
    first | done | rfl
  try simp only [Act.put, List.setIfInBounds_toArray, List.set_cons_zero, List.set_cons_succ]
  refine UntH.take (i := 1) (some 33) rfl rfl (by kernel_rfl) (by kernel_rfl) (by kernel_rfl) (by kernel_rfl) (fun _ _ _ _ h => h) (by rfl) rfl ?_
  apply Exists.intro
  refine ⟨fun w' hw' => ?_, ?_⟩
  · subst hw'
    go_simp
    first | done | rfl
  try simp only [Act.put, List.setIfInBounds_toArray, List.set_cons_zero, List.set_cons_succ]
  refine UntH.take (i := 2) (some 34) rfl rfl (by kernel_rfl) (by kernel_rfl) (by kernel_rfl) (by kernel_rfl) (fun _ _ _ _ h => h) (by rfl) rfl ?_
  apply Exists.intro
  refine ⟨fun w' hw' => ?_, ?_⟩
  · subst hw'
    go_simp
    first | done | rfl
  try simp only [Act.put, List.setIfInBounds_toArray, List.set_cons_zero, List.set_cons_succ]
  refine UntH.take (i := 3) (some 35) rfl rfl (by kernel_rfl) (by kernel_rfl) (by kernel_rfl) (by kernel_rfl) (fun _ _ _ _ h => h) (by rfl) rfl ?_
  apply Exists.intro
  refine ⟨fun w' hw' => ?_, ?_⟩
  · subst hw'
    go_simp
    first | done | rfl
  try simp only [Act.put, List.setIfInBounds_toArray, List.set_cons_zero, List.set_cons_succ]
  refine UntH.take (i := 4) (some 36) rfl rfl (by kernel_rfl) (by kernel_rfl) (by kernel_rfl) (by kernel_rfl) (fun _ _ _ _ h => h) (by rfl) rfl ?_
  apply Exists.intro
  refine ⟨fun w' hw' => ?_, ?_⟩
  · subst hw'
    go_simp
    first | done | rfl
  try simp only [Act.put, List.setIfInBounds_toArray, List.set_cons_zero, List.set_cons_succ]
  refine UntH.take (i := 5) (some 37) rfl rfl (by kernel_rfl) (by kernel_rfl) (by kernel_rfl) (by kernel_rfl) (fun _ _ _ _ h => h) (by rfl) rfl ?_
  apply Exists.intro
  refine ⟨fun w' hw' => ?_, ?_⟩
  · subst hw'
    go_simp
    first | done | rfl
  try simp only [Act.put, List.setIfInBounds_toArray, List.set_cons_zero, List.set_cons_succ]
  refine UntH.take (i := 6) (some 38) rfl rfl (by kernel_rfl) (by kernel_rfl) (by kernel_rfl) (by kernel_rfl) (fun _ _ _ _ h => h) (by rfl) rfl ?_
  apply Exists.intro
  refine ⟨fun w' hw' => ?_, ?_⟩
  · subst hw'
    go_simp
    first | done | rfl
  try simp only [Act.put, List.setIfInBounds_toArray, List.set_cons_zero, List.set_cons_succ]
  refine UntH.take (i := 7) (some 39) rfl rfl (by kernel_rfl) (by kernel_rfl) (by kernel_rfl) (by kernel_rfl) (fun _ _ _ _ h => h) (by rfl) rfl ?_
  apply Exists.intro
  refine ⟨fun w' hw' => ?_, ?_⟩
  · subst hw'
    go_simp
    first | done | rfl
  try simp only [Act.put, List.setIfInBounds_toArray, List.set_cons_zero, List.set_cons_succ]
  refine UntH.take (i := 8) (some 40) rfl rfl (by kernel_rfl) (by kernel_rfl) (by kernel_rfl) (by kernel_rfl) (fun _ _ _ _ h => h) (by rfl) rfl ?_
  apply Exists.intro
  refine ⟨fun w' hw' => ?_, ?_⟩
  · subst hw'
    go_simp
    first | done | rfl
  try simp only [Act.put, List.setIfInBounds_toArray, List.set_cons_zero, List.set_cons_succ]
  refine UntH.take (i := 9) (some 41) rfl rfl (by kernel_rfl) (by kernel_rfl) (by kernel_rfl) (by kernel_rfl) (fun _ _ _ _ h => h) (by rfl) rfl ?_
  apply Exists.intro
  refine ⟨fun w' hw' => ?_, ?_⟩
  · subst hw'
    go_simp
    first | done | rfl
  try simp only [Act.put, List.setIfInBounds_toArray, List.set_cons_zero, List.set_cons_succ]
  refine UntH.step (i := 10) (by kernel_rfl) rfl (fun K hK => ?_)
  go_simp
  refine (PL.out w5).mono ?_
  rintro e w9 ⟨rfl, hw8⟩
  have hw9 := hw8.symm
  clear hw8
  subst hw9
  go_simp
  refine hK _ _ rfl ?_
  clear hK K PL
  refine UntH.take (i := 11) (some 43) rfl rfl (by kernel_rfl) (by kernel_rfl) (by kernel_rfl) (by kernel_rfl) (fun _ _ _ _ h => h) (by rfl) rfl ?_
  apply Exists.intro
  refine ⟨fun w' hw' => ?_, ?_⟩
  · subst hw'
    go_simp
    first | done | rfl
  try simp only [Act.put, List.setIfInBounds_toArray, List.set_cons_zero, List.set_cons_succ]
  refine UntH.last (by kernel_rfl) rfl (by kernel_rfl) (by kernel_rfl) (fun K hK => ?_)
  go_simp
  refine hK _ _ ?_
  clear hK K b0 b1 s0 s1
  have B6 := hide (B5.out.setL (l : Int))
  have X6 := hide (X5.out.setCell (p := ⟨ob, 5, none⟩) HOB.out.1 (.int .i64 (l : Int)))
  have R6 := hide (R5.out.kept ((Kept.refl (fun b => b = ob) w5).setCell (p := ⟨ob, 5, none⟩) rfl (.int .i64 (l : Int))) (fun e => HOB.out.2.2 e.symm))
  generalize w5.setCell ⟨ob, 5, none⟩ (.int .i64 (l : Int)) = w6 at *
  clear B5 X5 R5 o0 o1 o2 o3 o4 o5 o6 o7 o8 ff
  go_upto_region 6 with fail
  have X7 : Hid (Below w.heap.size w w6.drew) := X6.out.drew
  have B7 : Hid (Bx w6.drew ob zn zw kf kg kh l zc (.slice ia IN.length ic) (.slice ca CS.length cc)) := B6.out
  have R7 : Hid (Bx w6.drew rb false 0 0 0 0 0 0 (.slice none 0 0) (.slice none 0 0)) := R6.out
  refine wp_unt (S := fun V => V = w6.drew) 15 (by kernel_rfl) ?_
  generalize w6.drew = w7 at *
  clear X6 B6 R6
  obtain ⟨b0, b1, s0, s1⟩ := HCELL.out _ X7.out
  obtain ⟨o0, o1, o2, o3, o4, o5, o6, o7, o8⟩ := B7.out.cells
  have ff := B7.out.fro 6
  refine UntH.take (i := 0) (some 44) rfl rfl (by kernel_rfl) (by kernel_rfl) (by kernel_rfl) (by kernel_rfl) (fun _ _ _ _ h => h) (by rfl) rfl ?_
  apply Exists.intro
  refine ⟨fun w' hw' => ?_, ?_⟩
  · subst hw'
    go_simp
    first | done | rfl
  try simp only [Act.put, List.setIfInBounds_toArray, List.set_cons_zero, List.set_cons_succ]
  refine UntH.take (i := 1) (some 45) rfl rfl (by kernel_rfl) (by kernel_rfl) (by kernel_rfl) (by kernel_rfl) (fun _ _ _ _ h => h) (by rfl) rfl ?_
  apply Exists.intro
  refine ⟨fun w' hw' => ?_, ?_⟩
  · subst hw'
    go_simp
    first | done | rfl
  try simp only [Act.put, List.setIfInBounds_toArray, List.set_cons_zero, List.set_cons_succ]
  refine UntH.take (i := 2) (some 46) rfl rfl (by kernel_rfl) (by kernel_rfl) (by kernel_rfl) (by kernel_rfl) (fun _ _ _ _ h => h) (by rfl) rfl ?_
  apply Exists.intro
  refine ⟨fun w' hw' => ?_, ?_⟩
  · subst hw'
    go_simp
    first | done | rfl
  try simp only [Act.put, List.setIfInBounds_toArray, List.set_cons_zero, List.set_cons_succ]
  refine UntH.take (i := 3) (some 47) rfl rfl (by kernel_rfl) (by kernel_rfl) (by kernel_rfl) (by kernel_rfl) (fun _ _ _ _ h => h) (by rfl) rfl ?_
  apply Exists.intro
  refine ⟨fun w' hw' => ?_, ?_⟩
  · subst hw'
    go_simp
    first | done | rfl
  try simp only [Act.put, List.setIfInBounds_toArray, List.set_cons_zero, List.set_cons_succ]
  refine UntH.take (i := 4) (some 48) rfl rfl (by kernel_rfl) (by kernel_rfl) (by kernel_rfl) (by kernel_rfl) (fun _ _ _ _ h => h) (by rfl) rfl ?_
  apply Exists.intro
  refine ⟨fun w' hw' => ?_, ?_⟩
  · subst hw'
    go_simp
    first | done | rfl
  try simp only [Act.put, List.setIfInBounds_toArray, List.set_cons_zero, List.set_cons_succ]
  refine UntH.take (i := 5) (some 49) rfl rfl (by kernel_rfl) (by kernel_rfl) (by kernel_rfl) (by kernel_rfl) (fun _ _ _ _ h => h) (by rfl) rfl ?_
  apply Exists.intro
  refine ⟨fun w' hw' => ?_, ?_⟩
  · subst hw'
    go_simp
    first | done | rfl
  try simp only [Act.put, List.setIfInBounds_toArray, List.set_cons_zero, List.set_cons_succ]
  refine UntH.take (i := 6) (some 50) rfl rfl (by kernel_rfl) (by kernel_rfl) (by kernel_rfl) (by kernel_rfl) (fun _ _ _ _ h => h) (by rfl) rfl ?_
  apply Exists.intro
  refine ⟨fun w' hw' => ?_, ?_⟩
  · subst hw'
    go_simp
    first | done | rfl
  try simp only [Act.put, List.setIfInBounds_toArray, List.set_cons_zero, List.set_cons_succ]
  refine UntH.take (i := 7) (some 51) rfl rfl (by kernel_rfl) (by kernel_rfl) (by kernel_rfl) (by kernel_rfl) (fun _ _ _ _ h => h) (by rfl) rfl ?_
  apply Exists.intro
  refine ⟨fun w' hw' => ?_, ?_⟩
  · subst hw'
    go_simp
    first | done | rfl
  try simp only [Act.put, List.setIfInBounds_toArray, List.set_cons_zero, List.set_cons_succ]
  refine UntH.take (i := 8) (some 52) rfl rfl (by kernel_rfl) (by kernel_rfl) (by kernel_rfl) (by kernel_rfl) (fun _ _ _ _ h => h) (by rfl) rfl ?_
  apply Exists.intro
  refine ⟨fun w' hw' => ?_, ?_⟩
  · subst hw'
    go_simp
    first | done | rfl
  try simp only [Act.put, List.setIfInBounds_toArray, List.set_cons_zero, List.set_cons_succ]
  refine UntH.take (i := 9) (some 53) rfl rfl (by kernel_rfl) (by kernel_rfl) (by kernel_rfl) (by kernel_rfl) (fun _ _ _ _ h => h) (by rfl) rfl ?_
  apply Exists.intro
  refine ⟨fun w' hw' => ?_, ?_⟩
  · subst hw'
    go_simp
    first | done | rfl
  try simp only [Act.put, List.setIfInBounds_toArray, List.set_cons_zero, List.set_cons_succ]
  refine UntH.take (i := 10) (some 54) rfl rfl (by kernel_rfl) (by kernel_rfl) (by kernel_rfl) (by kernel_rfl) (fun _ _ _ _ h => h) (by rfl) rfl ?_
  apply Exists.intro
  refine ⟨fun w' hw' => ?_, ?_⟩
  · subst hw'
    go_simp
    first | done | rfl
  try simp only [Act.put, List.setIfInBounds_toArray, List.set_cons_zero, List.set_cons_succ]
  refine UntH.take (i := 11) (some 55) rfl rfl (by kernel_rfl) (by kernel_rfl) (by kernel_rfl) (by kernel_rfl) (fun _ _ _ _ h => h) (by rfl) rfl ?_
  apply Exists.intro
  refine ⟨fun w' hw' => ?_, ?_⟩
  · subst hw'
    go_simp
    first | done | rfl
  try simp only [Act.put, List.setIfInBounds_toArray, List.set_cons_zero, List.set_cons_succ]
  refine UntH.take (i := 12) (some 56) rfl rfl (by kernel_rfl) (by kernel_rfl) (by kernel_rfl) (by kernel_rfl) (fun _ _ _ _ h => h) (by rfl) rfl ?_
  apply Exists.intro
  refine ⟨fun w' hw' => ?_, ?_⟩
  · subst hw'
    go_simp
    first | done | rfl
  try simp only [Act.put, List.setIfInBounds_toArray, List.set_cons_zero, List.set_cons_succ]
  refine UntH.step (i := 13) (by kernel_rfl) rfl (fun K hK => ?_)
  go_simp
  refine (PC.out w7).mono ?_
  rintro e w9 ⟨rfl, hw8⟩
  have hw9 := hw8.symm
  clear hw8
  subst hw9
  go_simp
  refine hK _ _ rfl ?_
  clear hK K PC
  refine UntH.take (i := 14) (some 58) rfl rfl (by kernel_rfl) (by kernel_rfl) (by kernel_rfl) (by kernel_rfl) (fun _ _ _ _ h => h) (by rfl) rfl ?_
  apply Exists.intro
  refine ⟨fun w' hw' => ?_, ?_⟩
  · subst hw'
    go_simp
    first | done | rfl
  try simp only [Act.put, List.setIfInBounds_toArray, List.set_cons_zero, List.set_cons_succ]
  refine UntH.last (by kernel_rfl) rfl (by kernel_rfl) (by kernel_rfl) (fun K hK => ?_)
  go_simp
  refine hK _ _ ?_
  clear hK K b0 b1 s0 s1
  have B8 := hide (B7.out.setC (kc : Int))
  have X8 := hide (X7.out.setCell (p := ⟨ob, 6, none⟩) HOB.out.1 (.int .i64 (kc : Int)))
  have R8 := hide (R7.out.kept ((Kept.refl (fun b => b = ob) w7).setCell (p := ⟨ob, 6, none⟩) rfl (.int .i64 (kc : Int))) (fun e => HOB.out.2.2 e.symm))
  generalize w7.setCell ⟨ob, 6, none⟩ (.int .i64 (kc : Int)) = w8 at *
  clear B7 X7 R7 o0 o1 o2 o3 o4 o5 o6 o7 o8 ff
  obtain ⟨i4, hi4, hz40, hz41, hz42⟩ := info_parts Try.info4
  obtain ⟨i3, hi3, hz30, hz31, hz32⟩ := info_parts Try.info3
  have HOL : Hid (ob < w8.heap.size) := lt_of_block B8.out
  have HW8 : Hid (w.heap.size ≤ w8.heap.size) := X8.out.size
  have HIN8 := hide (HIA.out.below X8.out)
  have HCS8 := hide (HCA.out.below X8.out)
  go_upto_block 0 with fail
  go_cut [6] (fun v wx => ∃ BL : List Bool, BL.length = s ∧ ∃ ao cp, v = .slice ao s cp ∧ Hid (wx.ownsRow w8.heap.size 4 1 (.slice ao s cp) s (bC BL)) ∧ Hid (Below w8.heap.size w8 wx))
  case first =>
    go_wp2
    go_loopw [6, 7] (fun v u wr => ∃ k : Nat, k ≤ s ∧ u = .int .i64 k ∧ ∃ BL : List Bool, Hid (BL.length = k) ∧ Hid (wr.ownsRow w8.heap.size 4 1 v k (bC BL)) ∧ Hid (Below w8.heap.size w8 wr)) (fun _ u _ => s - (RowKit.intOf u).toNat)
    case atStart => exact ⟨0, Nat.zero_le _, rfl, [], hide rfl, World.ownsRow_nil _ _ _ _, Below.refl _ _⟩
    case round =>
      obtain ⟨k, hk, rfl, BL, HBL, HO, HQ⟩ := hrel
      obtain ⟨la, lc, rfl, _⟩ := own_shape HO.out
      go_upto_region 9 with fail
      have X9 : Hid (Below w.heap.size w wr.drew) := (bt X8.out HQ.out (Nat.le_refl _)).drew
      have HQ9 : Hid (Below w8.heap.size w8 wr.drew) := HQ.out.drew
      have HO9 : Hid (wr.drew.ownsRow w8.heap.size 4 1 (.slice la k lc) k (bC BL)) := HO.out
      refine wp_unt (S := fun V => V = wr.drew) 12 (by kernel_rfl) ?_
      generalize wr.drew = w9 at *
      clear HQ HO
      have B9 := hide (B8.out.below HQ9.out)
      obtain ⟨b0, b1, s0, s1⟩ := HCELL.out _ X9.out
      obtain ⟨o0, o1, o2, o3, o4, o5, o6, o7, o8⟩ := B9.out.cells
      refine UntH.take (i := 0) (some 59) rfl rfl (by kernel_rfl) (by kernel_rfl) (by kernel_rfl) (by kernel_rfl) (fun _ _ _ _ h => h) (by rfl) rfl ?_
      apply Exists.intro
      refine ⟨fun w' hw' => ?_, ?_⟩
      · subst hw'
        go_simp
        first | done | rfl
      try simp only [Act.put, List.setIfInBounds_toArray, List.set_cons_zero, List.set_cons_succ]
      refine UntH.take (i := 1) (some 60) rfl rfl (by kernel_rfl) (by kernel_rfl) (by kernel_rfl) (by kernel_rfl) (fun _ _ _ _ h => h) (by rfl) rfl ?_
      apply Exists.intro
      refine ⟨fun w' hw' => ?_, ?_⟩
      · subst hw'
        go_simp
        first | done | rfl
      try simp only [Act.put, List.setIfInBounds_toArray, List.set_cons_zero, List.set_cons_succ]
      refine UntH.take (i := 2) (some 61) rfl rfl (by kernel_rfl) (by kernel_rfl) (by kernel_rfl) (by kernel_rfl) (fun _ _ _ _ h => h) (by rfl) rfl ?_
      apply Exists.intro
      refine ⟨fun w' hw' => ?_, ?_⟩
      · subst hw'
        go_simp
        first | done | rfl
      try simp only [Act.put, List.setIfInBounds_toArray, List.set_cons_zero, List.set_cons_succ]
      refine UntH.take (i := 3) (some 62) rfl rfl (by kernel_rfl) (by kernel_rfl) (by kernel_rfl) (by kernel_rfl) (fun _ _ _ _ h => h) (by rfl) rfl ?_
      apply Exists.intro
      refine ⟨fun w' hw' => ?_, ?_⟩
      · subst hw'
        go_simp
        first | done | rfl
      try simp only [Act.put, List.setIfInBounds_toArray, List.set_cons_zero, List.set_cons_succ]
      refine UntH.take (i := 4) (some 63) rfl rfl (by kernel_rfl) (by kernel_rfl) (by kernel_rfl) (by kernel_rfl) (fun _ _ _ _ h => h) (by rfl) rfl ?_
      apply Exists.intro
      refine ⟨fun w' hw' => ?_, ?_⟩
      · subst hw'
        go_simp
        first | done | rfl
      try simp only [Act.put, List.setIfInBounds_toArray, List.set_cons_zero, List.set_cons_succ]
      refine UntH.take (i := 5) (some 64) rfl rfl (by kernel_rfl) (by kernel_rfl) (by kernel_rfl) (by kernel_rfl) (fun _ _ _ _ h => h) (by rfl) rfl ?_
      apply Exists.intro
      refine ⟨fun w' hw' => ?_, ?_⟩
      · subst hw'
        go_simp
        first | done | rfl
      try simp only [Act.put, List.setIfInBounds_toArray, List.set_cons_zero, List.set_cons_succ]
      refine UntH.take (i := 6) (some 65) rfl rfl (by kernel_rfl) (by kernel_rfl) (by kernel_rfl) (by kernel_rfl) (fun _ _ _ _ h => h) (by rfl) rfl ?_
      apply Exists.intro
      refine ⟨fun w' hw' => ?_, ?_⟩
      · subst hw'
        go_simp
        first | done | rfl
      try simp only [Act.put, List.setIfInBounds_toArray, List.set_cons_zero, List.set_cons_succ]
      refine UntH.take (i := 7) (some 66) rfl rfl (by kernel_rfl) (by kernel_rfl) (by kernel_rfl) (by kernel_rfl) (fun _ _ _ _ h => h) (by rfl) rfl ?_
      apply Exists.intro
      refine ⟨fun w' hw' => ?_, ?_⟩
      · subst hw'
        go_simp
        first | done | rfl
      try simp only [Act.put, List.setIfInBounds_toArray, List.set_cons_zero, List.set_cons_succ]
      refine UntH.take (i := 8) (some 67) rfl rfl (by kernel_rfl) (by kernel_rfl) (by kernel_rfl) (by kernel_rfl) (fun _ _ _ _ h => h) (by rfl) rfl ?_
      apply Exists.intro
      refine ⟨fun w' hw' => ?_, ?_⟩
      · subst hw'
        go_simp
        first | done | rfl
      try simp only [Act.put, List.setIfInBounds_toArray, List.set_cons_zero, List.set_cons_succ]
      refine UntH.take (i := 9) (some 68) rfl rfl (by kernel_rfl) (by kernel_rfl) (by kernel_rfl) (by kernel_rfl) (fun _ _ _ _ h => h) (by rfl) rfl ?_
      apply Exists.intro
      refine ⟨fun w' hw' => ?_, ?_⟩
      · subst hw'
        go_simp
        first | done | rfl
      try simp only [Act.put, List.setIfInBounds_toArray, List.set_cons_zero, List.set_cons_succ]
      refine UntH.take (i := 10) (some 69) rfl rfl (by kernel_rfl) (by kernel_rfl) (by kernel_rfl) (by kernel_rfl) (fun _ _ _ _ h => h) (by rfl) rfl ?_
      apply Exists.intro
      refine ⟨fun w' hw' => ?_, ?_⟩
      · subst hw'
        go_simp
        first | done | rfl
      try simp only [Act.put, List.setIfInBounds_toArray, List.set_cons_zero, List.set_cons_succ]
      refine UntH.take (i := 11) (some 70) rfl rfl (by kernel_rfl) (by kernel_rfl) (by kernel_rfl) (by kernel_rfl) (fun _ _ _ _ h => h) (by rfl) rfl ?_
      apply Exists.intro
      refine ⟨fun w' hw' => ?_, ?_⟩
      · subst hw'
        go_simp
        first | done | rfl
      try simp only [Act.put, List.setIfInBounds_toArray, List.set_cons_zero, List.set_cons_succ]
      by_cases hlt : k < s
      · have hlt' : (k : Int) < (s : Int) := by omega
        refine UntH.last (by kernel_rfl) rfl (by kernel_rfl) (by kernel_rfl) (fun K hK => ?_)
        go_simp
        refine hK _ _ ?_
        clear hK K b0 b1 s0 s1 o0 o1 o2 o3 o4 o5 o6 o7 o8
        have HB9 : Hid (w8.heap.size ≤ w9.heap.size) := HQ9.out.size
        have NXT : Hid (∀ (b : Bool) (g cp : Nat) (w11 : World), w11.ownsRow w8.heap.size 4 1 (.slice (some ⟨g, 0, none⟩) (k + 1) cp) (k + 1) (bC BL ++ [.bool b]) → (w9.drew.alloc (.cells #[.bool b] 4)).grownBy w11 (Value.slice la k lc).ownBlock → Hid ((BL ++ [b]).length = k + 1) ∧ Hid (w11.ownsRow w8.heap.size 4 1 (.slice (some ⟨g, 0, none⟩) (k + 1) cp) (k + 1) (bC (BL ++ [b]))) ∧ Hid (Below w8.heap.size w8 w11)) := fun b g cp w11 h1 h2 => by
          have y10 : Below w9.drew.heap.size w9.drew (w9.drew.alloc (.cells #[.bool b] 4)) := al (Below.refl _ _) _
          have q9 : Below w8.heap.size w8 w9.drew := HQ9.out.drew
          have o10 := own_below (show w9.drew.ownsRow w8.heap.size 4 1 (.slice la k lc) k (bC BL) from HO9.out) y10
          have q10 := bt q9 y10 (Nat.le_refl _)
          refine ⟨by unfold Hid; rw [List.length_append, HBL.out]; rfl, by unfold Hid; rw [bC_snoc]; exact h1, Below.trans q10 ((kept_of_grown h2).below q10.size (fun j hj => (World.ownsRow.lt o10 j hj).1))⟩
        have OWN : Hid (∀ b : Bool, (w9.drew.alloc (.cells #[.bool b] 4)).ownsRow w8.heap.size 4 1 (.slice la k lc) k (bC BL)) := fun b => own_below (show w9.drew.ownsRow w8.heap.size 4 1 (.slice la k lc) k (bC BL) from HO9.out) (al (Below.refl _ _) _)
        have SIZ : Hid (∀ b : Bool, w8.heap.size ≤ (w9.drew.alloc (.cells #[.bool b] 4)).heap.size) := fun b => Nat.le_trans HB9.out (al (Below.refl w9.drew.heap.size w9.drew) _).size
        have CAL : Hid (∀ b : Bool, ∀ p : Addr, p.block < w9.heap.size → (w9.drew.alloc (.cells #[.bool b] 4)).cell? p = w9.drew.cell? p) := fun b p hp => (al (Below.refl w9.drew.heap.size w9.drew) (.cells #[.bool b] 4)).cell (p := p) hp
        have hk256 : k ≤ 256 := by omega
        have u7 : w9.drew.cell? ⟨ob, 7, none⟩ = some (.slice ia IN.length ic) := B9.out.cells.2.2.2.2.2.2.2.1
        have HOL9 : Hid (ob < w9.heap.size) := lt_of_block B9.out
        have IN9 := hide (HIN8.out.below HQ9.out)
        by_cases hn0 : IN.length = 0
        · have hn1 : (IN.length : Int) = 0 := by omega
          have hn2 : ¬ (0 : Int) < (IN.length : Int) := by omega
          have hn3 : ¬ 0 < IN.length := by omega
          have HSA : Hid (∀ b : Bool, (w9.drew.alloc (.cells #[.bool b] 4)).cell? ⟨ob, 7, none⟩ = some (.slice ia IN.length ic)) := fun b => (CAL.out b _ HOL9.out).trans u7
          have HSK : Hid (∀ (b : Bool) (w11 : World), (w9.drew.alloc (.cells #[.bool b] 4)).grownBy w11 (Value.slice la k lc).ownBlock → w11.cell? ⟨ob, 7, none⟩ = some (.slice ia IN.length ic)) := fun b w11 h2 => by
            have q10 := bt (HQ9.out.drew) (al (Below.refl w9.drew.heap.size w9.drew) (.cells #[.bool b] 4)) (Nat.le_refl _)
            have y11 : Below w8.heap.size (w9.drew.alloc (.cells #[.bool b] 4)) w11 := (kept_of_grown h2).below (SIZ.out b) (fun j hj => (World.ownsRow.lt (OWN.out b) j hj).1)
            exact (y11.cell (p := ⟨ob, 7, none⟩) HOL.out).trans (HSA.out b)
          clear hn0
          go_upto_region 11 with fail
          refine wp_unt (S := fun V => V.cell? ⟨ob, 7, none⟩ = some (.slice ia IN.length ic)) 24 (by kernel_rfl) ?_
          generalize w9.drew = w10 at *
          refine UntH.take (i := 0) (some 74) rfl rfl (by kernel_rfl) (by kernel_rfl) (by kernel_rfl) (by kernel_rfl) (fun _ _ _ _ h => h) (by rfl) u7 ?_
          apply Exists.intro
          refine ⟨fun w' hw' => ?_, ?_⟩
          · have q0 := hw'
            go_simp
            first | done | rfl
          try simp only [Act.put, List.setIfInBounds_toArray, List.set_cons_zero, List.set_cons_succ]
          refine UntH.take (i := 1) (some 75) rfl rfl (by kernel_rfl) (by kernel_rfl) (by kernel_rfl) (by kernel_rfl) (fun _ _ _ _ h => h) (by rfl) u7 ?_
          apply Exists.intro
          refine ⟨fun w' hw' => ?_, ?_⟩
          · have q0 := hw'
            go_simp
            first | done | rfl
          try simp only [Act.put, List.setIfInBounds_toArray, List.set_cons_zero, List.set_cons_succ]
          refine UntH.take (i := 2) (some 76) rfl rfl (by kernel_rfl) (by kernel_rfl) (by kernel_rfl) (by kernel_rfl) (fun _ _ _ _ h => h) (by rfl) u7 ?_
          apply Exists.intro
          refine ⟨fun w' hw' => ?_, ?_⟩
          · have q0 := hw'
            go_simp
            first | done | rfl
          try simp only [Act.put, List.setIfInBounds_toArray, List.set_cons_zero, List.set_cons_succ]
          refine UntH.take (i := 3) (some 77) rfl rfl (by kernel_rfl) (by kernel_rfl) (by kernel_rfl) (by kernel_rfl) (fun _ _ _ _ h => h) (by rfl) u7 ?_
          apply Exists.intro
          refine ⟨fun w' hw' => ?_, ?_⟩
          · have q0 := hw'
            go_simp
            first | done | rfl
          try simp only [Act.put, List.setIfInBounds_toArray, List.set_cons_zero, List.set_cons_succ]
          refine UntH.take (i := 4) (some 78) rfl rfl (by kernel_rfl) (by kernel_rfl) (by kernel_rfl) (by kernel_rfl) (fun _ _ _ _ h => h) (by rfl) u7 ?_
          apply Exists.intro
          refine ⟨fun w' hw' => ?_, ?_⟩
          · have q0 := hw'
            go_simp
            first | done | rfl
          try simp only [Act.put, List.setIfInBounds_toArray, List.set_cons_zero, List.set_cons_succ]
          refine UntH.take (i := 5) (some 79) rfl rfl (by kernel_rfl) (by kernel_rfl) (by kernel_rfl) (by kernel_rfl) (fun _ _ _ _ h => h) (by rfl) u7 ?_
          apply Exists.intro
          refine ⟨fun w' hw' => ?_, ?_⟩
          · have q0 := hw'
            go_simp
            first | done | rfl
          try simp only [Act.put, List.setIfInBounds_toArray, List.set_cons_zero, List.set_cons_succ]
          refine UntH.skip (i := 6) (some 80) rfl rfl (by kernel_rfl) (by kernel_rfl) (by kernel_rfl) (by kernel_rfl) (fun _ _ _ _ h => h) (by rfl) u7 ?_
          try simp only [Act.put, List.setIfInBounds_toArray, List.set_cons_zero, List.set_cons_succ]
          refine UntH.skip (i := 7) (some 81) rfl rfl (by kernel_rfl) (by kernel_rfl) (by kernel_rfl) (by kernel_rfl) (fun _ _ _ _ h => h) (by rfl) u7 ?_
          try simp only [Act.put, List.setIfInBounds_toArray, List.set_cons_zero, List.set_cons_succ]
          refine UntH.skip (i := 8) (some 82) rfl rfl (by kernel_rfl) (by kernel_rfl) (by kernel_rfl) (by kernel_rfl) (fun _ _ _ _ h => h) (by rfl) u7 ?_
          try simp only [Act.put, List.setIfInBounds_toArray, List.set_cons_zero, List.set_cons_succ]
          refine UntH.skip (i := 9) (some 83) rfl rfl (by kernel_rfl) (by kernel_rfl) (by kernel_rfl) (by kernel_rfl) (fun _ _ _ _ h => h) (by rfl) u7 ?_
          try simp only [Act.put, List.setIfInBounds_toArray, List.set_cons_zero, List.set_cons_succ]
          refine UntH.skip (i := 10) (some 84) rfl rfl (by kernel_rfl) (by kernel_rfl) (by kernel_rfl) (by kernel_rfl) (fun _ _ _ _ h => h) (by rfl) u7 ?_
          try simp only [Act.put, List.setIfInBounds_toArray, List.set_cons_zero, List.set_cons_succ]
          refine UntH.skip (i := 11) (some 85) rfl rfl (by kernel_rfl) (by kernel_rfl) (by kernel_rfl) (by kernel_rfl) (fun _ _ _ _ h => h) (by rfl) u7 ?_
          try simp only [Act.put, List.setIfInBounds_toArray, List.set_cons_zero, List.set_cons_succ]
          refine UntH.skip (i := 12) (some 86) rfl rfl (by kernel_rfl) (by kernel_rfl) (by kernel_rfl) (by kernel_rfl) (fun _ _ _ _ h => h) (by rfl) u7 ?_
          try simp only [Act.put, List.setIfInBounds_toArray, List.set_cons_zero, List.set_cons_succ]
          refine UntH.skip (i := 13) (some 87) rfl rfl (by kernel_rfl) (by kernel_rfl) (by kernel_rfl) (by kernel_rfl) (fun _ _ _ _ h => h) (by rfl) u7 ?_
          try simp only [Act.put, List.setIfInBounds_toArray, List.set_cons_zero, List.set_cons_succ]
          refine UntH.skip (i := 14) (some 88) rfl rfl (by kernel_rfl) (by kernel_rfl) (by kernel_rfl) (by kernel_rfl) (fun _ _ _ _ h => h) (by rfl) u7 ?_
          try simp only [Act.put, List.setIfInBounds_toArray, List.set_cons_zero, List.set_cons_succ]
          refine UntH.skip (i := 15) (some 89) rfl rfl (by kernel_rfl) (by kernel_rfl) (by kernel_rfl) (by kernel_rfl) (fun _ _ _ _ h => h) (by rfl) u7 ?_
          try simp only [Act.put, List.setIfInBounds_toArray, List.set_cons_zero, List.set_cons_succ]
          refine UntH.skip (i := 16) (some 90) rfl rfl (by kernel_rfl) (by kernel_rfl) (by kernel_rfl) (by kernel_rfl) (fun _ _ _ _ h => h) (by rfl) u7 ?_
          try simp only [Act.put, List.setIfInBounds_toArray, List.set_cons_zero, List.set_cons_succ]
          refine UntH.skip (i := 17) (some 91) rfl rfl (by kernel_rfl) (by kernel_rfl) (by kernel_rfl) (by kernel_rfl) (fun _ _ _ _ h => h) (by rfl) u7 ?_
          try simp only [Act.put, List.setIfInBounds_toArray, List.set_cons_zero, List.set_cons_succ]
          refine UntH.skip (i := 18) (some 92) rfl rfl (by kernel_rfl) (by kernel_rfl) (by kernel_rfl) (by kernel_rfl) (fun _ _ _ _ h => h) (by rfl) u7 ?_
          try simp only [Act.put, List.setIfInBounds_toArray, List.set_cons_zero, List.set_cons_succ]
          refine UntH.skip (i := 19) (some 93) rfl rfl (by kernel_rfl) (by kernel_rfl) (by kernel_rfl) (by kernel_rfl) (fun _ _ _ _ h => h) (by rfl) u7 ?_
          try simp only [Act.put, List.setIfInBounds_toArray, List.set_cons_zero, List.set_cons_succ]
          refine UntH.skip (i := 20) (some 94) rfl rfl (by kernel_rfl) (by kernel_rfl) (by kernel_rfl) (by kernel_rfl) (fun _ _ _ _ h => h) (by rfl) u7 ?_
          try simp only [Act.put, List.setIfInBounds_toArray, List.set_cons_zero, List.set_cons_succ]
          refine UntH.take (i := 21) (some 95) rfl rfl (by kernel_rfl) (by kernel_rfl) (by kernel_rfl) (by kernel_rfl) (fun _ _ _ _ h => h) (by rfl) u7 ?_
          apply Exists.intro
          refine ⟨fun w' hw' => ?_, ?_⟩
          · have q0 := hw'
            go_simp
            first | done | rfl
          try simp only [Act.put, List.setIfInBounds_toArray, List.set_cons_zero, List.set_cons_succ]
          have OW := OWN.out false
          have SZ := SIZ.out false
          refine UntH.step (i := 22) (by kernel_rfl) rfl (fun K hK => ?_)
          go_simp
          refine hK _ _ (HSA.out false) ?_
          clear hK K
          refine UntH.step (i := 23) (by kernel_rfl) rfl (fun K hK => ?_)
          refine step_append_lies _ (by rfl) (.tmp 74) (.tmp 96) 36 (by rfl) w8.heap.size 4 i4 (.bool false) 1 1 Try.underlying36 hi4 hz40 hz41 hz42 rfl (by decide) _ k (bC BL) (by rfl) OW ⟨w10.heap.size, 0, none⟩ 1 1 [.bool false] (by rfl) (by rfl) (one_new w10 _ _) (by simp [Value.oneCell']) (by decide) (by unfold maxLen; omega) (by omega) SZ _ rfl ?_
          intro g5 cap5 w11 h1 h2 h3 h4
          obtain ⟨n1, n2, n3⟩ := NXT.out false g5 cap5 w11 h1 h2
          have HS11 := HSK.out false w11 h2
          clear h1 h2 h3 h4
          refine hK _ _ HS11 ?_
          clear hK K
          refine UntH.last (by kernel_rfl) rfl (by kernel_rfl) (by kernel_rfl) (fun K hK => ?_)
          go_simp
          refine hK _ _ ?_
          clear hK K HS11 OW SZ
          go_wp2
          go_roundw
          case rel => exact ⟨k + 1, by omega, by go_num, BL ++ [false], n1, n2, n3⟩
          case measure => simp [RowKit.intOf]; omega
        · have hn2 : (0 : Int) < (IN.length : Int) := by omega
          have hn3 : 0 < IN.length := by omega
          have hn4 : ¬ (IN.length : Int) = 0 := by omega
          have hn5 : ¬ IN = [] := fun e => by rw [e] at hn3; cases hn3
          obtain ⟨j, hj⟩ : ∃ j, k % IN.length = j := ⟨_, rfl⟩
          have hjl : j < IN.length := by rw [← hj]; exact Nat.mod_lt _ hn3
          have hjl' : (j : Int) < (IN.length : Int) := by omega
          have hjm : (k : Int).tmod (IN.length : Int) = (j : Int) := by rw [← hj, Int.tmod_eq_emod_of_nonneg (by omega)]; rfl
          have hjn : (k : Int) % (IN.length : Int) = (j : Int) := by rw [← hj]; rfl
          obtain ⟨bi, oi, hia, hbi, g9⟩ := IN9.out.get hjl
          subst hia
          have u9 : w9.drew.cell? ⟨bi, oi + j, none⟩ = some (.bool (IN.getD j false)) := g9
          clear g9
          generalize hbv : IN.getD j false = bv at *
          clear hbv
          have HSA : Hid (∀ b : Bool, (w9.drew.alloc (.cells #[.bool b] 4)).cell? ⟨ob, 7, none⟩ = some (.slice (some ⟨bi, oi, none⟩) IN.length ic) ∧ (w9.drew.alloc (.cells #[.bool b] 4)).cell? ⟨bi, oi + j, none⟩ = some (.bool bv)) := fun b => ⟨(CAL.out b _ HOL9.out).trans u7, (CAL.out b _ hbi).trans u9⟩
          have HBI8 : Hid (bi < w8.heap.size) := by
            obtain ⟨bi2, oi2, e1, e2, _⟩ := HIN8.out.get hjl
            injection e1 with e1
            injection e1 with e1 _
            rw [e1]
            exact e2
          have HSK : Hid (∀ (b : Bool) (w11 : World), (w9.drew.alloc (.cells #[.bool b] 4)).grownBy w11 (Value.slice la k lc).ownBlock → w11.cell? ⟨ob, 7, none⟩ = some (.slice (some ⟨bi, oi, none⟩) IN.length ic) ∧ w11.cell? ⟨bi, oi + j, none⟩ = some (.bool bv)) := fun b w11 h2 => by
            have y11 : Below w8.heap.size (w9.drew.alloc (.cells #[.bool b] 4)) w11 := (kept_of_grown h2).below (SIZ.out b) (fun j hj => (World.ownsRow.lt (OWN.out b) j hj).1)
            exact ⟨(y11.cell (p := ⟨ob, 7, none⟩) HOL.out).trans (HSA.out b).1, (y11.cell (p := ⟨bi, oi + j, none⟩) HBI8.out).trans (HSA.out b).2⟩
          have hu : w9.drew.cell? ⟨ob, 7, none⟩ = some (.slice (some ⟨bi, oi, none⟩) IN.length ic) ∧ w9.drew.cell? ⟨bi, oi + j, none⟩ = some (.bool bv) := ⟨u7, u9⟩
          clear u7 u9 hn0 hbi hj
          by_cases hge : IN.length ≤ k
          · have hge' : (IN.length : Int) ≤ (k : Int) := by omega
            cases bv with
            | false =>
              go_upto_region 11 with fail
              refine wp_unt (S := fun V => V.cell? ⟨ob, 7, none⟩ = some (.slice (some ⟨bi, oi, none⟩) IN.length ic) ∧ V.cell? ⟨bi, oi + j, none⟩ = some (.bool false)) 24 (by kernel_rfl) ?_
              generalize w9.drew = w10 at *
              refine UntH.take (i := 0) (some 74) rfl rfl (by kernel_rfl) (by kernel_rfl) (by kernel_rfl) (by kernel_rfl) (fun _ _ _ _ h => h) (by rfl) hu ?_
              apply Exists.intro
              refine ⟨fun w' hw' => ?_, ?_⟩
              · (obtain ⟨q0, q1⟩ := hw')
                go_simp
                first | done | rfl
              try simp only [Act.put, List.setIfInBounds_toArray, List.set_cons_zero, List.set_cons_succ]
              refine UntH.take (i := 1) (some 75) rfl rfl (by kernel_rfl) (by kernel_rfl) (by kernel_rfl) (by kernel_rfl) (fun _ _ _ _ h => h) (by rfl) hu ?_
              apply Exists.intro
              refine ⟨fun w' hw' => ?_, ?_⟩
              · (obtain ⟨q0, q1⟩ := hw')
                go_simp
                first | done | rfl
              try simp only [Act.put, List.setIfInBounds_toArray, List.set_cons_zero, List.set_cons_succ]
              refine UntH.take (i := 2) (some 76) rfl rfl (by kernel_rfl) (by kernel_rfl) (by kernel_rfl) (by kernel_rfl) (fun _ _ _ _ h => h) (by rfl) hu ?_
              apply Exists.intro
              refine ⟨fun w' hw' => ?_, ?_⟩
              · (obtain ⟨q0, q1⟩ := hw')
                go_simp
                first | done | rfl
              try simp only [Act.put, List.setIfInBounds_toArray, List.set_cons_zero, List.set_cons_succ]
              refine UntH.take (i := 3) (some 77) rfl rfl (by kernel_rfl) (by kernel_rfl) (by kernel_rfl) (by kernel_rfl) (fun _ _ _ _ h => h) (by rfl) hu ?_
              apply Exists.intro
              refine ⟨fun w' hw' => ?_, ?_⟩
              · (obtain ⟨q0, q1⟩ := hw')
                go_simp
                first | done | rfl
              try simp only [Act.put, List.setIfInBounds_toArray, List.set_cons_zero, List.set_cons_succ]
              refine UntH.take (i := 4) (some 78) rfl rfl (by kernel_rfl) (by kernel_rfl) (by kernel_rfl) (by kernel_rfl) (fun _ _ _ _ h => h) (by rfl) hu ?_
              apply Exists.intro
              refine ⟨fun w' hw' => ?_, ?_⟩
              · (obtain ⟨q0, q1⟩ := hw')
                go_simp
                first | done | rfl
              try simp only [Act.put, List.setIfInBounds_toArray, List.set_cons_zero, List.set_cons_succ]
              refine UntH.take (i := 5) (some 79) rfl rfl (by kernel_rfl) (by kernel_rfl) (by kernel_rfl) (by kernel_rfl) (fun _ _ _ _ h => h) (by rfl) hu ?_
              apply Exists.intro
              refine ⟨fun w' hw' => ?_, ?_⟩
              · (obtain ⟨q0, q1⟩ := hw')
                go_simp
                first | done | rfl
              try simp only [Act.put, List.setIfInBounds_toArray, List.set_cons_zero, List.set_cons_succ]
              refine UntH.take (i := 6) (some 80) rfl rfl (by kernel_rfl) (by kernel_rfl) (by kernel_rfl) (by kernel_rfl) (fun _ _ _ _ h => h) (by rfl) hu ?_
              apply Exists.intro
              refine ⟨fun w' hw' => ?_, ?_⟩
              · (obtain ⟨q0, q1⟩ := hw')
                go_simp
                first | done | rfl
              try simp only [Act.put, List.setIfInBounds_toArray, List.set_cons_zero, List.set_cons_succ]
              refine UntH.take (i := 7) (some 81) rfl rfl (by kernel_rfl) (by kernel_rfl) (by kernel_rfl) (by kernel_rfl) (fun _ _ _ _ h => h) (by rfl) hu ?_
              apply Exists.intro
              refine ⟨fun w' hw' => ?_, ?_⟩
              · (obtain ⟨q0, q1⟩ := hw')
                go_simp
                first | done | rfl
              try simp only [Act.put, List.setIfInBounds_toArray, List.set_cons_zero, List.set_cons_succ]
              refine UntH.take (i := 8) (some 82) rfl rfl (by kernel_rfl) (by kernel_rfl) (by kernel_rfl) (by kernel_rfl) (fun _ _ _ _ h => h) (by rfl) hu ?_
              apply Exists.intro
              refine ⟨fun w' hw' => ?_, ?_⟩
              · (obtain ⟨q0, q1⟩ := hw')
                go_simp
                first | done | rfl
              try simp only [Act.put, List.setIfInBounds_toArray, List.set_cons_zero, List.set_cons_succ]
              refine UntH.take (i := 9) (some 83) rfl rfl (by kernel_rfl) (by kernel_rfl) (by kernel_rfl) (by kernel_rfl) (fun _ _ _ _ h => h) (by rfl) hu ?_
              apply Exists.intro
              refine ⟨fun w' hw' => ?_, ?_⟩
              · (obtain ⟨q0, q1⟩ := hw')
                go_simp
                first | done | rfl
              try simp only [Act.put, List.setIfInBounds_toArray, List.set_cons_zero, List.set_cons_succ]
              refine UntH.take (i := 10) (some 84) rfl rfl (by kernel_rfl) (by kernel_rfl) (by kernel_rfl) (by kernel_rfl) (fun _ _ _ _ h => h) (by rfl) hu ?_
              apply Exists.intro
              refine ⟨fun w' hw' => ?_, ?_⟩
              · (obtain ⟨q0, q1⟩ := hw')
                go_simp
                first | done | rfl
              try simp only [Act.put, List.setIfInBounds_toArray, List.set_cons_zero, List.set_cons_succ]
              refine UntH.take (i := 11) (some 85) rfl rfl (by kernel_rfl) (by kernel_rfl) (by kernel_rfl) (by kernel_rfl) (fun _ _ _ _ h => h) (by rfl) hu ?_
              apply Exists.intro
              refine ⟨fun w' hw' => ?_, ?_⟩
              · (obtain ⟨q0, q1⟩ := hw')
                go_simp
                first | done | rfl
              try simp only [Act.put, List.setIfInBounds_toArray, List.set_cons_zero, List.set_cons_succ]
              refine UntH.take (i := 12) (some 86) rfl rfl (by kernel_rfl) (by kernel_rfl) (by kernel_rfl) (by kernel_rfl) (fun _ _ _ _ h => h) (by rfl) hu ?_
              apply Exists.intro
              refine ⟨fun w' hw' => ?_, ?_⟩
              · (obtain ⟨q0, q1⟩ := hw')
                go_simp
                first | done | rfl
              try simp only [Act.put, List.setIfInBounds_toArray, List.set_cons_zero, List.set_cons_succ]
              refine UntH.take (i := 13) (some 87) rfl rfl (by kernel_rfl) (by kernel_rfl) (by kernel_rfl) (by kernel_rfl) (fun _ _ _ _ h => h) (by rfl) hu ?_
              apply Exists.intro
              refine ⟨fun w' hw' => ?_, ?_⟩
              · (obtain ⟨q0, q1⟩ := hw')
                go_simp
                first | done | rfl
              try simp only [Act.put, List.setIfInBounds_toArray, List.set_cons_zero, List.set_cons_succ]
              refine UntH.take (i := 14) (some 88) rfl rfl (by kernel_rfl) (by kernel_rfl) (by kernel_rfl) (by kernel_rfl) (fun _ _ _ _ h => h) (by rfl) hu ?_
              apply Exists.intro
              refine ⟨fun w' hw' => ?_, ?_⟩
              · (obtain ⟨q0, q1⟩ := hw')
                go_simp
                first | done | rfl
              try simp only [Act.put, List.setIfInBounds_toArray, List.set_cons_zero, List.set_cons_succ]
              refine UntH.take (i := 15) (some 89) rfl rfl (by kernel_rfl) (by kernel_rfl) (by kernel_rfl) (by kernel_rfl) (fun _ _ _ _ h => h) (by rfl) hu ?_
              apply Exists.intro
              refine ⟨fun w' hw' => ?_, ?_⟩
              · (obtain ⟨q0, q1⟩ := hw')
                go_simp
                first | done | rfl
              try simp only [Act.put, List.setIfInBounds_toArray, List.set_cons_zero, List.set_cons_succ]
              refine UntH.take (i := 16) (some 90) rfl rfl (by kernel_rfl) (by kernel_rfl) (by kernel_rfl) (by kernel_rfl) (fun _ _ _ _ h => h) (by rfl) hu ?_
              apply Exists.intro
              refine ⟨fun w' hw' => ?_, ?_⟩
              · (obtain ⟨q0, q1⟩ := hw')
                go_simp
                first | done | rfl
              try simp only [Act.put, List.setIfInBounds_toArray, List.set_cons_zero, List.set_cons_succ]
              refine UntH.take (i := 17) (some 91) rfl rfl (by kernel_rfl) (by kernel_rfl) (by kernel_rfl) (by kernel_rfl) (fun _ _ _ _ h => h) (by rfl) hu ?_
              apply Exists.intro
              refine ⟨fun w' hw' => ?_, ?_⟩
              · (obtain ⟨q0, q1⟩ := hw')
                go_simp
                first | done | rfl
              try simp only [Act.put, List.setIfInBounds_toArray, List.set_cons_zero, List.set_cons_succ]
              refine UntH.take (i := 18) (some 92) rfl rfl (by kernel_rfl) (by kernel_rfl) (by kernel_rfl) (by kernel_rfl) (fun _ _ _ _ h => h) (by rfl) hu ?_
              apply Exists.intro
              refine ⟨fun w' hw' => ?_, ?_⟩
              · (obtain ⟨q0, q1⟩ := hw')
                go_simp
                first | done | rfl
              try simp only [Act.put, List.setIfInBounds_toArray, List.set_cons_zero, List.set_cons_succ]
              refine UntH.take (i := 19) (some 93) rfl rfl (by kernel_rfl) (by kernel_rfl) (by kernel_rfl) (by kernel_rfl) (fun _ _ _ _ h => h) (by rfl) hu ?_
              apply Exists.intro
              refine ⟨fun w' hw' => ?_, ?_⟩
              · (obtain ⟨q0, q1⟩ := hw')
                go_simp
                first | done | rfl
              try simp only [Act.put, List.setIfInBounds_toArray, List.set_cons_zero, List.set_cons_succ]
              refine UntH.take (i := 20) (some 94) rfl rfl (by kernel_rfl) (by kernel_rfl) (by kernel_rfl) (by kernel_rfl) (fun _ _ _ _ h => h) (by rfl) hu ?_
              apply Exists.intro
              refine ⟨fun w' hw' => ?_, ?_⟩
              · (obtain ⟨q0, q1⟩ := hw')
                go_simp
                first | done | rfl
              try simp only [Act.put, List.setIfInBounds_toArray, List.set_cons_zero, List.set_cons_succ]
              refine UntH.take (i := 21) (some 95) rfl rfl (by kernel_rfl) (by kernel_rfl) (by kernel_rfl) (by kernel_rfl) (fun _ _ _ _ h => h) (by rfl) hu ?_
              apply Exists.intro
              refine ⟨fun w' hw' => ?_, ?_⟩
              · (obtain ⟨q0, q1⟩ := hw')
                go_simp
                first | done | rfl
              try simp only [Act.put, List.setIfInBounds_toArray, List.set_cons_zero, List.set_cons_succ]
              have OW := OWN.out true
              have SZ := SIZ.out true
              refine UntH.step (i := 22) (by kernel_rfl) rfl (fun K hK => ?_)
              go_simp
              refine hK _ _ (HSA.out true) ?_
              clear hK K
              refine UntH.step (i := 23) (by kernel_rfl) rfl (fun K hK => ?_)
              refine step_append_lies _ (by rfl) (.tmp 74) (.tmp 96) 36 (by rfl) w8.heap.size 4 i4 (.bool false) 1 1 Try.underlying36 hi4 hz40 hz41 hz42 rfl (by decide) _ k (bC BL) (by rfl) OW ⟨w10.heap.size, 0, none⟩ 1 1 [.bool true] (by rfl) (by rfl) (one_new w10 _ _) (by simp [Value.oneCell']) (by decide) (by unfold maxLen; omega) (by omega) SZ _ rfl ?_
              intro g5 cap5 w11 h1 h2 h3 h4
              obtain ⟨n1, n2, n3⟩ := NXT.out true g5 cap5 w11 h1 h2
              have HS11 := HSK.out true w11 h2
              clear h1 h2 h3 h4
              refine hK _ _ HS11 ?_
              clear hK K
              refine UntH.last (by kernel_rfl) rfl (by kernel_rfl) (by kernel_rfl) (fun K hK => ?_)
              go_simp
              refine hK _ _ ?_
              clear hK K HS11 OW SZ
              go_wp2
              go_roundw
              case rel => exact ⟨k + 1, by omega, by go_num, BL ++ [true], n1, n2, n3⟩
              case measure => simp [RowKit.intOf]; omega
            | true =>
              go_upto_region 11 with fail
              refine wp_unt (S := fun V => V.cell? ⟨ob, 7, none⟩ = some (.slice (some ⟨bi, oi, none⟩) IN.length ic) ∧ V.cell? ⟨bi, oi + j, none⟩ = some (.bool true)) 24 (by kernel_rfl) ?_
              generalize w9.drew = w10 at *
              refine UntH.take (i := 0) (some 74) rfl rfl (by kernel_rfl) (by kernel_rfl) (by kernel_rfl) (by kernel_rfl) (fun _ _ _ _ h => h) (by rfl) hu ?_
              apply Exists.intro
              refine ⟨fun w' hw' => ?_, ?_⟩
              · (obtain ⟨q0, q1⟩ := hw')
                go_simp
                first | done | rfl
              try simp only [Act.put, List.setIfInBounds_toArray, List.set_cons_zero, List.set_cons_succ]
              refine UntH.take (i := 1) (some 75) rfl rfl (by kernel_rfl) (by kernel_rfl) (by kernel_rfl) (by kernel_rfl) (fun _ _ _ _ h => h) (by rfl) hu ?_
              apply Exists.intro
              refine ⟨fun w' hw' => ?_, ?_⟩
              · (obtain ⟨q0, q1⟩ := hw')
                go_simp
                first | done | rfl
              try simp only [Act.put, List.setIfInBounds_toArray, List.set_cons_zero, List.set_cons_succ]
              refine UntH.take (i := 2) (some 76) rfl rfl (by kernel_rfl) (by kernel_rfl) (by kernel_rfl) (by kernel_rfl) (fun _ _ _ _ h => h) (by rfl) hu ?_
              apply Exists.intro
              refine ⟨fun w' hw' => ?_, ?_⟩
              · (obtain ⟨q0, q1⟩ := hw')
                go_simp
                first | done | rfl
              try simp only [Act.put, List.setIfInBounds_toArray, List.set_cons_zero, List.set_cons_succ]
              refine UntH.take (i := 3) (some 77) rfl rfl (by kernel_rfl) (by kernel_rfl) (by kernel_rfl) (by kernel_rfl) (fun _ _ _ _ h => h) (by rfl) hu ?_
              apply Exists.intro
              refine ⟨fun w' hw' => ?_, ?_⟩
              · (obtain ⟨q0, q1⟩ := hw')
                go_simp
                first | done | rfl
              try simp only [Act.put, List.setIfInBounds_toArray, List.set_cons_zero, List.set_cons_succ]
              refine UntH.take (i := 4) (some 78) rfl rfl (by kernel_rfl) (by kernel_rfl) (by kernel_rfl) (by kernel_rfl) (fun _ _ _ _ h => h) (by rfl) hu ?_
              apply Exists.intro
              refine ⟨fun w' hw' => ?_, ?_⟩
              · (obtain ⟨q0, q1⟩ := hw')
                go_simp
                first | done | rfl
              try simp only [Act.put, List.setIfInBounds_toArray, List.set_cons_zero, List.set_cons_succ]
              refine UntH.take (i := 5) (some 79) rfl rfl (by kernel_rfl) (by kernel_rfl) (by kernel_rfl) (by kernel_rfl) (fun _ _ _ _ h => h) (by rfl) hu ?_
              apply Exists.intro
              refine ⟨fun w' hw' => ?_, ?_⟩
              · (obtain ⟨q0, q1⟩ := hw')
                go_simp
                first | done | rfl
              try simp only [Act.put, List.setIfInBounds_toArray, List.set_cons_zero, List.set_cons_succ]
              refine UntH.take (i := 6) (some 80) rfl rfl (by kernel_rfl) (by kernel_rfl) (by kernel_rfl) (by kernel_rfl) (fun _ _ _ _ h => h) (by rfl) hu ?_
              apply Exists.intro
              refine ⟨fun w' hw' => ?_, ?_⟩
              · (obtain ⟨q0, q1⟩ := hw')
                go_simp
                first | done | rfl
              try simp only [Act.put, List.setIfInBounds_toArray, List.set_cons_zero, List.set_cons_succ]
              refine UntH.take (i := 7) (some 81) rfl rfl (by kernel_rfl) (by kernel_rfl) (by kernel_rfl) (by kernel_rfl) (fun _ _ _ _ h => h) (by rfl) hu ?_
              apply Exists.intro
              refine ⟨fun w' hw' => ?_, ?_⟩
              · (obtain ⟨q0, q1⟩ := hw')
                go_simp
                first | done | rfl
              try simp only [Act.put, List.setIfInBounds_toArray, List.set_cons_zero, List.set_cons_succ]
              refine UntH.take (i := 8) (some 82) rfl rfl (by kernel_rfl) (by kernel_rfl) (by kernel_rfl) (by kernel_rfl) (fun _ _ _ _ h => h) (by rfl) hu ?_
              apply Exists.intro
              refine ⟨fun w' hw' => ?_, ?_⟩
              · (obtain ⟨q0, q1⟩ := hw')
                go_simp
                first | done | rfl
              try simp only [Act.put, List.setIfInBounds_toArray, List.set_cons_zero, List.set_cons_succ]
              refine UntH.take (i := 9) (some 83) rfl rfl (by kernel_rfl) (by kernel_rfl) (by kernel_rfl) (by kernel_rfl) (fun _ _ _ _ h => h) (by rfl) hu ?_
              apply Exists.intro
              refine ⟨fun w' hw' => ?_, ?_⟩
              · (obtain ⟨q0, q1⟩ := hw')
                go_simp
                first | done | rfl
              try simp only [Act.put, List.setIfInBounds_toArray, List.set_cons_zero, List.set_cons_succ]
              refine UntH.take (i := 10) (some 84) rfl rfl (by kernel_rfl) (by kernel_rfl) (by kernel_rfl) (by kernel_rfl) (fun _ _ _ _ h => h) (by rfl) hu ?_
              apply Exists.intro
              refine ⟨fun w' hw' => ?_, ?_⟩
              · (obtain ⟨q0, q1⟩ := hw')
                go_simp
                first | done | rfl
              try simp only [Act.put, List.setIfInBounds_toArray, List.set_cons_zero, List.set_cons_succ]
              refine UntH.take (i := 11) (some 85) rfl rfl (by kernel_rfl) (by kernel_rfl) (by kernel_rfl) (by kernel_rfl) (fun _ _ _ _ h => h) (by rfl) hu ?_
              apply Exists.intro
              refine ⟨fun w' hw' => ?_, ?_⟩
              · (obtain ⟨q0, q1⟩ := hw')
                go_simp
                first | done | rfl
              try simp only [Act.put, List.setIfInBounds_toArray, List.set_cons_zero, List.set_cons_succ]
              refine UntH.take (i := 12) (some 86) rfl rfl (by kernel_rfl) (by kernel_rfl) (by kernel_rfl) (by kernel_rfl) (fun _ _ _ _ h => h) (by rfl) hu ?_
              apply Exists.intro
              refine ⟨fun w' hw' => ?_, ?_⟩
              · (obtain ⟨q0, q1⟩ := hw')
                go_simp
                first | done | rfl
              try simp only [Act.put, List.setIfInBounds_toArray, List.set_cons_zero, List.set_cons_succ]
              refine UntH.take (i := 13) (some 87) rfl rfl (by kernel_rfl) (by kernel_rfl) (by kernel_rfl) (by kernel_rfl) (fun _ _ _ _ h => h) (by rfl) hu ?_
              apply Exists.intro
              refine ⟨fun w' hw' => ?_, ?_⟩
              · (obtain ⟨q0, q1⟩ := hw')
                go_simp
                first | done | rfl
              try simp only [Act.put, List.setIfInBounds_toArray, List.set_cons_zero, List.set_cons_succ]
              refine UntH.take (i := 14) (some 88) rfl rfl (by kernel_rfl) (by kernel_rfl) (by kernel_rfl) (by kernel_rfl) (fun _ _ _ _ h => h) (by rfl) hu ?_
              apply Exists.intro
              refine ⟨fun w' hw' => ?_, ?_⟩
              · (obtain ⟨q0, q1⟩ := hw')
                go_simp
                first | done | rfl
              try simp only [Act.put, List.setIfInBounds_toArray, List.set_cons_zero, List.set_cons_succ]
              refine UntH.take (i := 15) (some 89) rfl rfl (by kernel_rfl) (by kernel_rfl) (by kernel_rfl) (by kernel_rfl) (fun _ _ _ _ h => h) (by rfl) hu ?_
              apply Exists.intro
              refine ⟨fun w' hw' => ?_, ?_⟩
              · (obtain ⟨q0, q1⟩ := hw')
                go_simp
                first | done | rfl
              try simp only [Act.put, List.setIfInBounds_toArray, List.set_cons_zero, List.set_cons_succ]
              refine UntH.take (i := 16) (some 90) rfl rfl (by kernel_rfl) (by kernel_rfl) (by kernel_rfl) (by kernel_rfl) (fun _ _ _ _ h => h) (by rfl) hu ?_
              apply Exists.intro
              refine ⟨fun w' hw' => ?_, ?_⟩
              · (obtain ⟨q0, q1⟩ := hw')
                go_simp
                first | done | rfl
              try simp only [Act.put, List.setIfInBounds_toArray, List.set_cons_zero, List.set_cons_succ]
              refine UntH.take (i := 17) (some 91) rfl rfl (by kernel_rfl) (by kernel_rfl) (by kernel_rfl) (by kernel_rfl) (fun _ _ _ _ h => h) (by rfl) hu ?_
              apply Exists.intro
              refine ⟨fun w' hw' => ?_, ?_⟩
              · (obtain ⟨q0, q1⟩ := hw')
                go_simp
                first | done | rfl
              try simp only [Act.put, List.setIfInBounds_toArray, List.set_cons_zero, List.set_cons_succ]
              refine UntH.take (i := 18) (some 92) rfl rfl (by kernel_rfl) (by kernel_rfl) (by kernel_rfl) (by kernel_rfl) (fun _ _ _ _ h => h) (by rfl) hu ?_
              apply Exists.intro
              refine ⟨fun w' hw' => ?_, ?_⟩
              · (obtain ⟨q0, q1⟩ := hw')
                go_simp
                first | done | rfl
              try simp only [Act.put, List.setIfInBounds_toArray, List.set_cons_zero, List.set_cons_succ]
              refine UntH.take (i := 19) (some 93) rfl rfl (by kernel_rfl) (by kernel_rfl) (by kernel_rfl) (by kernel_rfl) (fun _ _ _ _ h => h) (by rfl) hu ?_
              apply Exists.intro
              refine ⟨fun w' hw' => ?_, ?_⟩
              · (obtain ⟨q0, q1⟩ := hw')
                go_simp
                first | done | rfl
              try simp only [Act.put, List.setIfInBounds_toArray, List.set_cons_zero, List.set_cons_succ]
              refine UntH.take (i := 20) (some 94) rfl rfl (by kernel_rfl) (by kernel_rfl) (by kernel_rfl) (by kernel_rfl) (fun _ _ _ _ h => h) (by rfl) hu ?_
              apply Exists.intro
              refine ⟨fun w' hw' => ?_, ?_⟩
              · (obtain ⟨q0, q1⟩ := hw')
                go_simp
                first | done | rfl
              try simp only [Act.put, List.setIfInBounds_toArray, List.set_cons_zero, List.set_cons_succ]
              refine UntH.take (i := 21) (some 95) rfl rfl (by kernel_rfl) (by kernel_rfl) (by kernel_rfl) (by kernel_rfl) (fun _ _ _ _ h => h) (by rfl) hu ?_
              apply Exists.intro
              refine ⟨fun w' hw' => ?_, ?_⟩
              · (obtain ⟨q0, q1⟩ := hw')
                go_simp
                first | done | rfl
              try simp only [Act.put, List.setIfInBounds_toArray, List.set_cons_zero, List.set_cons_succ]
              have OW := OWN.out false
              have SZ := SIZ.out false
              refine UntH.step (i := 22) (by kernel_rfl) rfl (fun K hK => ?_)
              go_simp
              refine hK _ _ (HSA.out false) ?_
              clear hK K
              refine UntH.step (i := 23) (by kernel_rfl) rfl (fun K hK => ?_)
              refine step_append_lies _ (by rfl) (.tmp 74) (.tmp 96) 36 (by rfl) w8.heap.size 4 i4 (.bool false) 1 1 Try.underlying36 hi4 hz40 hz41 hz42 rfl (by decide) _ k (bC BL) (by rfl) OW ⟨w10.heap.size, 0, none⟩ 1 1 [.bool false] (by rfl) (by rfl) (one_new w10 _ _) (by simp [Value.oneCell']) (by decide) (by unfold maxLen; omega) (by omega) SZ _ rfl ?_
              intro g5 cap5 w11 h1 h2 h3 h4
              obtain ⟨n1, n2, n3⟩ := NXT.out false g5 cap5 w11 h1 h2
              have HS11 := HSK.out false w11 h2
              clear h1 h2 h3 h4
              refine hK _ _ HS11 ?_
              clear hK K
              refine UntH.last (by kernel_rfl) rfl (by kernel_rfl) (by kernel_rfl) (fun K hK => ?_)
              go_simp
              refine hK _ _ ?_
              clear hK K HS11 OW SZ
              go_wp2
              go_roundw
              case rel => exact ⟨k + 1, by omega, by go_num, BL ++ [false], n1, n2, n3⟩
              case measure => simp [RowKit.intOf]; omega
          · have hge' : ¬ (IN.length : Int) ≤ (k : Int) := by omega
            cases bv with
            | false =>
              go_upto_region 11 with fail
              refine wp_unt (S := fun V => V.cell? ⟨ob, 7, none⟩ = some (.slice (some ⟨bi, oi, none⟩) IN.length ic) ∧ V.cell? ⟨bi, oi + j, none⟩ = some (.bool false)) 24 (by kernel_rfl) ?_
              generalize w9.drew = w10 at *
              refine UntH.take (i := 0) (some 74) rfl rfl (by kernel_rfl) (by kernel_rfl) (by kernel_rfl) (by kernel_rfl) (fun _ _ _ _ h => h) (by rfl) hu ?_
              apply Exists.intro
              refine ⟨fun w' hw' => ?_, ?_⟩
              · (obtain ⟨q0, q1⟩ := hw')
                go_simp
                first | done | rfl
              try simp only [Act.put, List.setIfInBounds_toArray, List.set_cons_zero, List.set_cons_succ]
              refine UntH.take (i := 1) (some 75) rfl rfl (by kernel_rfl) (by kernel_rfl) (by kernel_rfl) (by kernel_rfl) (fun _ _ _ _ h => h) (by rfl) hu ?_
              apply Exists.intro
              refine ⟨fun w' hw' => ?_, ?_⟩
              · (obtain ⟨q0, q1⟩ := hw')
                go_simp
                first | done | rfl
              try simp only [Act.put, List.setIfInBounds_toArray, List.set_cons_zero, List.set_cons_succ]
              refine UntH.take (i := 2) (some 76) rfl rfl (by kernel_rfl) (by kernel_rfl) (by kernel_rfl) (by kernel_rfl) (fun _ _ _ _ h => h) (by rfl) hu ?_
              apply Exists.intro
              refine ⟨fun w' hw' => ?_, ?_⟩
              · (obtain ⟨q0, q1⟩ := hw')
                go_simp
                first | done | rfl
              try simp only [Act.put, List.setIfInBounds_toArray, List.set_cons_zero, List.set_cons_succ]
              refine UntH.take (i := 3) (some 77) rfl rfl (by kernel_rfl) (by kernel_rfl) (by kernel_rfl) (by kernel_rfl) (fun _ _ _ _ h => h) (by rfl) hu ?_
              apply Exists.intro
              refine ⟨fun w' hw' => ?_, ?_⟩
              · (obtain ⟨q0, q1⟩ := hw')
                go_simp
                first | done | rfl
              try simp only [Act.put, List.setIfInBounds_toArray, List.set_cons_zero, List.set_cons_succ]
              refine UntH.take (i := 4) (some 78) rfl rfl (by kernel_rfl) (by kernel_rfl) (by kernel_rfl) (by kernel_rfl) (fun _ _ _ _ h => h) (by rfl) hu ?_
              apply Exists.intro
              refine ⟨fun w' hw' => ?_, ?_⟩
              · (obtain ⟨q0, q1⟩ := hw')
                go_simp
                first | done | rfl
              try simp only [Act.put, List.setIfInBounds_toArray, List.set_cons_zero, List.set_cons_succ]
              refine UntH.take (i := 5) (some 79) rfl rfl (by kernel_rfl) (by kernel_rfl) (by kernel_rfl) (by kernel_rfl) (fun _ _ _ _ h => h) (by rfl) hu ?_
              apply Exists.intro
              refine ⟨fun w' hw' => ?_, ?_⟩
              · (obtain ⟨q0, q1⟩ := hw')
                go_simp
                first | done | rfl
              try simp only [Act.put, List.setIfInBounds_toArray, List.set_cons_zero, List.set_cons_succ]
              refine UntH.take (i := 6) (some 80) rfl rfl (by kernel_rfl) (by kernel_rfl) (by kernel_rfl) (by kernel_rfl) (fun _ _ _ _ h => h) (by rfl) hu ?_
              apply Exists.intro
              refine ⟨fun w' hw' => ?_, ?_⟩
              · (obtain ⟨q0, q1⟩ := hw')
                go_simp
                first | done | rfl
              try simp only [Act.put, List.setIfInBounds_toArray, List.set_cons_zero, List.set_cons_succ]
              refine UntH.take (i := 7) (some 81) rfl rfl (by kernel_rfl) (by kernel_rfl) (by kernel_rfl) (by kernel_rfl) (fun _ _ _ _ h => h) (by rfl) hu ?_
              apply Exists.intro
              refine ⟨fun w' hw' => ?_, ?_⟩
              · (obtain ⟨q0, q1⟩ := hw')
                go_simp
                first | done | rfl
              try simp only [Act.put, List.setIfInBounds_toArray, List.set_cons_zero, List.set_cons_succ]
              refine UntH.take (i := 8) (some 82) rfl rfl (by kernel_rfl) (by kernel_rfl) (by kernel_rfl) (by kernel_rfl) (fun _ _ _ _ h => h) (by rfl) hu ?_
              apply Exists.intro
              refine ⟨fun w' hw' => ?_, ?_⟩
              · (obtain ⟨q0, q1⟩ := hw')
                go_simp
                first | done | rfl
              try simp only [Act.put, List.setIfInBounds_toArray, List.set_cons_zero, List.set_cons_succ]
              refine UntH.take (i := 9) (some 83) rfl rfl (by kernel_rfl) (by kernel_rfl) (by kernel_rfl) (by kernel_rfl) (fun _ _ _ _ h => h) (by rfl) hu ?_
              apply Exists.intro
              refine ⟨fun w' hw' => ?_, ?_⟩
              · (obtain ⟨q0, q1⟩ := hw')
                go_simp
                first | done | rfl
              try simp only [Act.put, List.setIfInBounds_toArray, List.set_cons_zero, List.set_cons_succ]
              refine UntH.take (i := 10) (some 84) rfl rfl (by kernel_rfl) (by kernel_rfl) (by kernel_rfl) (by kernel_rfl) (fun _ _ _ _ h => h) (by rfl) hu ?_
              apply Exists.intro
              refine ⟨fun w' hw' => ?_, ?_⟩
              · (obtain ⟨q0, q1⟩ := hw')
                go_simp
                first | done | rfl
              try simp only [Act.put, List.setIfInBounds_toArray, List.set_cons_zero, List.set_cons_succ]
              refine UntH.take (i := 11) (some 85) rfl rfl (by kernel_rfl) (by kernel_rfl) (by kernel_rfl) (by kernel_rfl) (fun _ _ _ _ h => h) (by rfl) hu ?_
              apply Exists.intro
              refine ⟨fun w' hw' => ?_, ?_⟩
              · (obtain ⟨q0, q1⟩ := hw')
                go_simp
                first | done | rfl
              try simp only [Act.put, List.setIfInBounds_toArray, List.set_cons_zero, List.set_cons_succ]
              refine UntH.take (i := 12) (some 86) rfl rfl (by kernel_rfl) (by kernel_rfl) (by kernel_rfl) (by kernel_rfl) (fun _ _ _ _ h => h) (by rfl) hu ?_
              apply Exists.intro
              refine ⟨fun w' hw' => ?_, ?_⟩
              · (obtain ⟨q0, q1⟩ := hw')
                go_simp
                first | done | rfl
              try simp only [Act.put, List.setIfInBounds_toArray, List.set_cons_zero, List.set_cons_succ]
              refine UntH.take (i := 13) (some 87) rfl rfl (by kernel_rfl) (by kernel_rfl) (by kernel_rfl) (by kernel_rfl) (fun _ _ _ _ h => h) (by rfl) hu ?_
              apply Exists.intro
              refine ⟨fun w' hw' => ?_, ?_⟩
              · (obtain ⟨q0, q1⟩ := hw')
                go_simp
                first | done | rfl
              try simp only [Act.put, List.setIfInBounds_toArray, List.set_cons_zero, List.set_cons_succ]
              refine UntH.take (i := 14) (some 88) rfl rfl (by kernel_rfl) (by kernel_rfl) (by kernel_rfl) (by kernel_rfl) (fun _ _ _ _ h => h) (by rfl) hu ?_
              apply Exists.intro
              refine ⟨fun w' hw' => ?_, ?_⟩
              · (obtain ⟨q0, q1⟩ := hw')
                go_simp
                first | done | rfl
              try simp only [Act.put, List.setIfInBounds_toArray, List.set_cons_zero, List.set_cons_succ]
              refine UntH.take (i := 15) (some 89) rfl rfl (by kernel_rfl) (by kernel_rfl) (by kernel_rfl) (by kernel_rfl) (fun _ _ _ _ h => h) (by rfl) hu ?_
              apply Exists.intro
              refine ⟨fun w' hw' => ?_, ?_⟩
              · (obtain ⟨q0, q1⟩ := hw')
                go_simp
                first | done | rfl
              try simp only [Act.put, List.setIfInBounds_toArray, List.set_cons_zero, List.set_cons_succ]
              refine UntH.take (i := 16) (some 90) rfl rfl (by kernel_rfl) (by kernel_rfl) (by kernel_rfl) (by kernel_rfl) (fun _ _ _ _ h => h) (by rfl) hu ?_
              apply Exists.intro
              refine ⟨fun w' hw' => ?_, ?_⟩
              · (obtain ⟨q0, q1⟩ := hw')
                go_simp
                first | done | rfl
              try simp only [Act.put, List.setIfInBounds_toArray, List.set_cons_zero, List.set_cons_succ]
              refine UntH.take (i := 17) (some 91) rfl rfl (by kernel_rfl) (by kernel_rfl) (by kernel_rfl) (by kernel_rfl) (fun _ _ _ _ h => h) (by rfl) hu ?_
              apply Exists.intro
              refine ⟨fun w' hw' => ?_, ?_⟩
              · (obtain ⟨q0, q1⟩ := hw')
                go_simp
                first | done | rfl
              try simp only [Act.put, List.setIfInBounds_toArray, List.set_cons_zero, List.set_cons_succ]
              refine UntH.take (i := 18) (some 92) rfl rfl (by kernel_rfl) (by kernel_rfl) (by kernel_rfl) (by kernel_rfl) (fun _ _ _ _ h => h) (by rfl) hu ?_
              apply Exists.intro
              refine ⟨fun w' hw' => ?_, ?_⟩
              · (obtain ⟨q0, q1⟩ := hw')
                go_simp
                first | done | rfl
              try simp only [Act.put, List.setIfInBounds_toArray, List.set_cons_zero, List.set_cons_succ]
              refine UntH.take (i := 19) (some 93) rfl rfl (by kernel_rfl) (by kernel_rfl) (by kernel_rfl) (by kernel_rfl) (fun _ _ _ _ h => h) (by rfl) hu ?_
              apply Exists.intro
              refine ⟨fun w' hw' => ?_, ?_⟩
              · (obtain ⟨q0, q1⟩ := hw')
                go_simp
                first | done | rfl
              try simp only [Act.put, List.setIfInBounds_toArray, List.set_cons_zero, List.set_cons_succ]
              refine UntH.take (i := 20) (some 94) rfl rfl (by kernel_rfl) (by kernel_rfl) (by kernel_rfl) (by kernel_rfl) (fun _ _ _ _ h => h) (by rfl) hu ?_
              apply Exists.intro
              refine ⟨fun w' hw' => ?_, ?_⟩
              · (obtain ⟨q0, q1⟩ := hw')
                go_simp
                first | done | rfl
              try simp only [Act.put, List.setIfInBounds_toArray, List.set_cons_zero, List.set_cons_succ]
              refine UntH.take (i := 21) (some 95) rfl rfl (by kernel_rfl) (by kernel_rfl) (by kernel_rfl) (by kernel_rfl) (fun _ _ _ _ h => h) (by rfl) hu ?_
              apply Exists.intro
              refine ⟨fun w' hw' => ?_, ?_⟩
              · (obtain ⟨q0, q1⟩ := hw')
                go_simp
                first | done | rfl
              try simp only [Act.put, List.setIfInBounds_toArray, List.set_cons_zero, List.set_cons_succ]
              have OW := OWN.out false
              have SZ := SIZ.out false
              refine UntH.step (i := 22) (by kernel_rfl) rfl (fun K hK => ?_)
              go_simp
              refine hK _ _ (HSA.out false) ?_
              clear hK K
              refine UntH.step (i := 23) (by kernel_rfl) rfl (fun K hK => ?_)
              refine step_append_lies _ (by rfl) (.tmp 74) (.tmp 96) 36 (by rfl) w8.heap.size 4 i4 (.bool false) 1 1 Try.underlying36 hi4 hz40 hz41 hz42 rfl (by decide) _ k (bC BL) (by rfl) OW ⟨w10.heap.size, 0, none⟩ 1 1 [.bool false] (by rfl) (by rfl) (one_new w10 _ _) (by simp [Value.oneCell']) (by decide) (by unfold maxLen; omega) (by omega) SZ _ rfl ?_
              intro g5 cap5 w11 h1 h2 h3 h4
              obtain ⟨n1, n2, n3⟩ := NXT.out false g5 cap5 w11 h1 h2
              have HS11 := HSK.out false w11 h2
              clear h1 h2 h3 h4
              refine hK _ _ HS11 ?_
              clear hK K
              refine UntH.last (by kernel_rfl) rfl (by kernel_rfl) (by kernel_rfl) (fun K hK => ?_)
              go_simp
              refine hK _ _ ?_
              clear hK K HS11 OW SZ
              go_wp2
              go_roundw
              case rel => exact ⟨k + 1, by omega, by go_num, BL ++ [false], n1, n2, n3⟩
              case measure => simp [RowKit.intOf]; omega
            | true =>
              go_upto_region 11 with fail
              refine wp_unt (S := fun V => V.cell? ⟨ob, 7, none⟩ = some (.slice (some ⟨bi, oi, none⟩) IN.length ic) ∧ V.cell? ⟨bi, oi + j, none⟩ = some (.bool true)) 24 (by kernel_rfl) ?_
              generalize w9.drew = w10 at *
              refine UntH.take (i := 0) (some 74) rfl rfl (by kernel_rfl) (by kernel_rfl) (by kernel_rfl) (by kernel_rfl) (fun _ _ _ _ h => h) (by rfl) hu ?_
              apply Exists.intro
              refine ⟨fun w' hw' => ?_, ?_⟩
              · (obtain ⟨q0, q1⟩ := hw')
                go_simp
                first | done | rfl
              try simp only [Act.put, List.setIfInBounds_toArray, List.set_cons_zero, List.set_cons_succ]
              refine UntH.take (i := 1) (some 75) rfl rfl (by kernel_rfl) (by kernel_rfl) (by kernel_rfl) (by kernel_rfl) (fun _ _ _ _ h => h) (by rfl) hu ?_
              apply Exists.intro
              refine ⟨fun w' hw' => ?_, ?_⟩
              · (obtain ⟨q0, q1⟩ := hw')
                go_simp
                first | done | rfl
              try simp only [Act.put, List.setIfInBounds_toArray, List.set_cons_zero, List.set_cons_succ]
              refine UntH.take (i := 2) (some 76) rfl rfl (by kernel_rfl) (by kernel_rfl) (by kernel_rfl) (by kernel_rfl) (fun _ _ _ _ h => h) (by rfl) hu ?_
              apply Exists.intro
              refine ⟨fun w' hw' => ?_, ?_⟩
              · (obtain ⟨q0, q1⟩ := hw')
                go_simp
                first | done | rfl
              try simp only [Act.put, List.setIfInBounds_toArray, List.set_cons_zero, List.set_cons_succ]
              refine UntH.take (i := 3) (some 77) rfl rfl (by kernel_rfl) (by kernel_rfl) (by kernel_rfl) (by kernel_rfl) (fun _ _ _ _ h => h) (by rfl) hu ?_
              apply Exists.intro
              refine ⟨fun w' hw' => ?_, ?_⟩
              · (obtain ⟨q0, q1⟩ := hw')
                go_simp
                first | done | rfl
              try simp only [Act.put, List.setIfInBounds_toArray, List.set_cons_zero, List.set_cons_succ]
              refine UntH.take (i := 4) (some 78) rfl rfl (by kernel_rfl) (by kernel_rfl) (by kernel_rfl) (by kernel_rfl) (fun _ _ _ _ h => h) (by rfl) hu ?_
              apply Exists.intro
              refine ⟨fun w' hw' => ?_, ?_⟩
              · (obtain ⟨q0, q1⟩ := hw')
                go_simp
                first | done | rfl
              try simp only [Act.put, List.setIfInBounds_toArray, List.set_cons_zero, List.set_cons_succ]
              refine UntH.take (i := 5) (some 79) rfl rfl (by kernel_rfl) (by kernel_rfl) (by kernel_rfl) (by kernel_rfl) (fun _ _ _ _ h => h) (by rfl) hu ?_
              apply Exists.intro
              refine ⟨fun w' hw' => ?_, ?_⟩
              · (obtain ⟨q0, q1⟩ := hw')
                go_simp
                first | done | rfl
              try simp only [Act.put, List.setIfInBounds_toArray, List.set_cons_zero, List.set_cons_succ]
              refine UntH.take (i := 6) (some 80) rfl rfl (by kernel_rfl) (by kernel_rfl) (by kernel_rfl) (by kernel_rfl) (fun _ _ _ _ h => h) (by rfl) hu ?_
              apply Exists.intro
              refine ⟨fun w' hw' => ?_, ?_⟩
              · (obtain ⟨q0, q1⟩ := hw')
                go_simp
                first | done | rfl
              try simp only [Act.put, List.setIfInBounds_toArray, List.set_cons_zero, List.set_cons_succ]
              refine UntH.take (i := 7) (some 81) rfl rfl (by kernel_rfl) (by kernel_rfl) (by kernel_rfl) (by kernel_rfl) (fun _ _ _ _ h => h) (by rfl) hu ?_
              apply Exists.intro
              refine ⟨fun w' hw' => ?_, ?_⟩
              · (obtain ⟨q0, q1⟩ := hw')
                go_simp
                first | done | rfl
              try simp only [Act.put, List.setIfInBounds_toArray, List.set_cons_zero, List.set_cons_succ]
              refine UntH.take (i := 8) (some 82) rfl rfl (by kernel_rfl) (by kernel_rfl) (by kernel_rfl) (by kernel_rfl) (fun _ _ _ _ h => h) (by rfl) hu ?_
              apply Exists.intro
              refine ⟨fun w' hw' => ?_, ?_⟩
              · (obtain ⟨q0, q1⟩ := hw')
                go_simp
                first | done | rfl
              try simp only [Act.put, List.setIfInBounds_toArray, List.set_cons_zero, List.set_cons_succ]
              refine UntH.take (i := 9) (some 83) rfl rfl (by kernel_rfl) (by kernel_rfl) (by kernel_rfl) (by kernel_rfl) (fun _ _ _ _ h => h) (by rfl) hu ?_
              apply Exists.intro
              refine ⟨fun w' hw' => ?_, ?_⟩
              · (obtain ⟨q0, q1⟩ := hw')
                go_simp
                first | done | rfl
              try simp only [Act.put, List.setIfInBounds_toArray, List.set_cons_zero, List.set_cons_succ]
              refine UntH.take (i := 10) (some 84) rfl rfl (by kernel_rfl) (by kernel_rfl) (by kernel_rfl) (by kernel_rfl) (fun _ _ _ _ h => h) (by rfl) hu ?_
              apply Exists.intro
              refine ⟨fun w' hw' => ?_, ?_⟩
              · (obtain ⟨q0, q1⟩ := hw')
                go_simp
                first | done | rfl
              try simp only [Act.put, List.setIfInBounds_toArray, List.set_cons_zero, List.set_cons_succ]
              refine UntH.take (i := 11) (some 85) rfl rfl (by kernel_rfl) (by kernel_rfl) (by kernel_rfl) (by kernel_rfl) (fun _ _ _ _ h => h) (by rfl) hu ?_
              apply Exists.intro
              refine ⟨fun w' hw' => ?_, ?_⟩
              · (obtain ⟨q0, q1⟩ := hw')
                go_simp
                first | done | rfl
              try simp only [Act.put, List.setIfInBounds_toArray, List.set_cons_zero, List.set_cons_succ]
              refine UntH.take (i := 12) (some 86) rfl rfl (by kernel_rfl) (by kernel_rfl) (by kernel_rfl) (by kernel_rfl) (fun _ _ _ _ h => h) (by rfl) hu ?_
              apply Exists.intro
              refine ⟨fun w' hw' => ?_, ?_⟩
              · (obtain ⟨q0, q1⟩ := hw')
                go_simp
                first | done | rfl
              try simp only [Act.put, List.setIfInBounds_toArray, List.set_cons_zero, List.set_cons_succ]
              refine UntH.take (i := 13) (some 87) rfl rfl (by kernel_rfl) (by kernel_rfl) (by kernel_rfl) (by kernel_rfl) (fun _ _ _ _ h => h) (by rfl) hu ?_
              apply Exists.intro
              refine ⟨fun w' hw' => ?_, ?_⟩
              · (obtain ⟨q0, q1⟩ := hw')
                go_simp
                first | done | rfl
              try simp only [Act.put, List.setIfInBounds_toArray, List.set_cons_zero, List.set_cons_succ]
              refine UntH.take (i := 14) (some 88) rfl rfl (by kernel_rfl) (by kernel_rfl) (by kernel_rfl) (by kernel_rfl) (fun _ _ _ _ h => h) (by rfl) hu ?_
              apply Exists.intro
              refine ⟨fun w' hw' => ?_, ?_⟩
              · (obtain ⟨q0, q1⟩ := hw')
                go_simp
                first | done | rfl
              try simp only [Act.put, List.setIfInBounds_toArray, List.set_cons_zero, List.set_cons_succ]
              refine UntH.take (i := 15) (some 89) rfl rfl (by kernel_rfl) (by kernel_rfl) (by kernel_rfl) (by kernel_rfl) (fun _ _ _ _ h => h) (by rfl) hu ?_
              apply Exists.intro
              refine ⟨fun w' hw' => ?_, ?_⟩
              · (obtain ⟨q0, q1⟩ := hw')
                go_simp
                first | done | rfl
              try simp only [Act.put, List.setIfInBounds_toArray, List.set_cons_zero, List.set_cons_succ]
              refine UntH.take (i := 16) (some 90) rfl rfl (by kernel_rfl) (by kernel_rfl) (by kernel_rfl) (by kernel_rfl) (fun _ _ _ _ h => h) (by rfl) hu ?_
              apply Exists.intro
              refine ⟨fun w' hw' => ?_, ?_⟩
              · (obtain ⟨q0, q1⟩ := hw')
                go_simp
                first | done | rfl
              try simp only [Act.put, List.setIfInBounds_toArray, List.set_cons_zero, List.set_cons_succ]
              refine UntH.take (i := 17) (some 91) rfl rfl (by kernel_rfl) (by kernel_rfl) (by kernel_rfl) (by kernel_rfl) (fun _ _ _ _ h => h) (by rfl) hu ?_
              apply Exists.intro
              refine ⟨fun w' hw' => ?_, ?_⟩
              · (obtain ⟨q0, q1⟩ := hw')
                go_simp
                first | done | rfl
              try simp only [Act.put, List.setIfInBounds_toArray, List.set_cons_zero, List.set_cons_succ]
              refine UntH.take (i := 18) (some 92) rfl rfl (by kernel_rfl) (by kernel_rfl) (by kernel_rfl) (by kernel_rfl) (fun _ _ _ _ h => h) (by rfl) hu ?_
              apply Exists.intro
              refine ⟨fun w' hw' => ?_, ?_⟩
              · (obtain ⟨q0, q1⟩ := hw')
                go_simp
                first | done | rfl
              try simp only [Act.put, List.setIfInBounds_toArray, List.set_cons_zero, List.set_cons_succ]
              refine UntH.take (i := 19) (some 93) rfl rfl (by kernel_rfl) (by kernel_rfl) (by kernel_rfl) (by kernel_rfl) (fun _ _ _ _ h => h) (by rfl) hu ?_
              apply Exists.intro
              refine ⟨fun w' hw' => ?_, ?_⟩
              · (obtain ⟨q0, q1⟩ := hw')
                go_simp
                first | done | rfl
              try simp only [Act.put, List.setIfInBounds_toArray, List.set_cons_zero, List.set_cons_succ]
              refine UntH.take (i := 20) (some 94) rfl rfl (by kernel_rfl) (by kernel_rfl) (by kernel_rfl) (by kernel_rfl) (fun _ _ _ _ h => h) (by rfl) hu ?_
              apply Exists.intro
              refine ⟨fun w' hw' => ?_, ?_⟩
              · (obtain ⟨q0, q1⟩ := hw')
                go_simp
                first | done | rfl
              try simp only [Act.put, List.setIfInBounds_toArray, List.set_cons_zero, List.set_cons_succ]
              refine UntH.take (i := 21) (some 95) rfl rfl (by kernel_rfl) (by kernel_rfl) (by kernel_rfl) (by kernel_rfl) (fun _ _ _ _ h => h) (by rfl) hu ?_
              apply Exists.intro
              refine ⟨fun w' hw' => ?_, ?_⟩
              · (obtain ⟨q0, q1⟩ := hw')
                go_simp
                first | done | rfl
              try simp only [Act.put, List.setIfInBounds_toArray, List.set_cons_zero, List.set_cons_succ]
              have OW := OWN.out true
              have SZ := SIZ.out true
              refine UntH.step (i := 22) (by kernel_rfl) rfl (fun K hK => ?_)
              go_simp
              refine hK _ _ (HSA.out true) ?_
              clear hK K
              refine UntH.step (i := 23) (by kernel_rfl) rfl (fun K hK => ?_)
              refine step_append_lies _ (by rfl) (.tmp 74) (.tmp 96) 36 (by rfl) w8.heap.size 4 i4 (.bool false) 1 1 Try.underlying36 hi4 hz40 hz41 hz42 rfl (by decide) _ k (bC BL) (by rfl) OW ⟨w10.heap.size, 0, none⟩ 1 1 [.bool true] (by rfl) (by rfl) (one_new w10 _ _) (by simp [Value.oneCell']) (by decide) (by unfold maxLen; omega) (by omega) SZ _ rfl ?_
              intro g5 cap5 w11 h1 h2 h3 h4
              obtain ⟨n1, n2, n3⟩ := NXT.out true g5 cap5 w11 h1 h2
              have HS11 := HSK.out true w11 h2
              clear h1 h2 h3 h4
              refine hK _ _ HS11 ?_
              clear hK K
              refine UntH.last (by kernel_rfl) rfl (by kernel_rfl) (by kernel_rfl) (fun K hK => ?_)
              go_simp
              refine hK _ _ ?_
              clear hK K HS11 OW SZ
              go_wp2
              go_roundw
              case rel => exact ⟨k + 1, by omega, by go_num, BL ++ [true], n1, n2, n3⟩
              case measure => simp [RowKit.intOf]; omega
      · have hlt' : ¬ (k : Int) < (s : Int) := by omega
        obtain rfl : k = s := by omega
        refine UntH.last (by kernel_rfl) rfl (by kernel_rfl) (by kernel_rfl) (fun K hK => ?_)
        go_simp
        refine hK _ _ ?_
        clear hK K b0 b1 s0 s1 o0 o1 o2 o3 o4 o5 o6 o7 o8
        go_wp2
        go_meet
        exact ⟨BL, HBL.out, la, lc, rfl, HO9, HQ9⟩
  obtain ⟨BL, hBL, ia2, ic2, rfl, OI9, Y9⟩ := hcut
  obtain ⟨w9, hw9⟩ : ∃ w9, w9 = wc := ⟨_, rfl⟩
  subst hw9
  have HBL := hide hBL
  clear hBL
  have B9 := hide (B8.out.below Y9.out)
  have R9 := hide (R8.out.below Y9.out)
  have X9 := hide (bt X8.out Y9.out (Nat.le_refl _))
  have HCS9 := hide (HCS8.out.below Y9.out)
  have OBN : Hid (∀ k, (Value.slice ia2 s ic2).ownBlock = some k → ¬ k = ob) := fun k hk e => by
    have h1 := (World.ownsRow.lt OI9.out k hk).1
    have h2 := HOL.out
    omega
  have RBN : Hid (∀ k, (Value.slice ia2 s ic2).ownBlock = some k → ¬ k = rb) := fun k hk e => by
    have h1 := (World.ownsRow.lt OI9.out k hk).1
    have h2 := lt_of_block R8.out
    omega
  clear B8 R8 X8 HCS8 HIN8 HOL
  obtain ⟨o0, o1, o2, o3, o4, o5, o6, o7, o8⟩ := B9.out.cells
  have ff := B9.out.fro 7
  go_upto_region 13 with fail
  have OI10 := hide (own_kept OI9.out ((Kept.refl (fun b => b = ob) w9).setCell (p := ⟨ob, 7, none⟩) rfl (.slice ia2 s ic2)) (fun k h3 h4 => OBN.out k h3 h4))
  have HCS10 : Hid (ZAt (w9.setCell ⟨ob, 7, none⟩ (.slice ia2 s ic2)) ca CS) := by
    have y : Below w.heap.size w (w9.setCell ⟨ob, 7, none⟩ (.slice ia2 s ic2)) := X9.out.setCell HOB.out.1 _
    exact HCA.out.below y
  have B10 := hide (B9.out.setI (.slice ia2 s ic2))
  have X10 := hide (X9.out.setCell (p := ⟨ob, 7, none⟩) HOB.out.1 (.slice ia2 s ic2))
  have R10 := hide (R9.out.kept ((Kept.refl (fun b => b = ob) w9).setCell (p := ⟨ob, 7, none⟩) rfl (.slice ia2 s ic2)) (fun e => HOB.out.2.2 e.symm))
  generalize w9.setCell ⟨ob, 7, none⟩ (.slice ia2 s ic2) = w10 at *
  clear B9 X9 R9 o0 o1 o2 o3 o4 o5 o6 o7 o8 ff
  clear HCS9 OI9 HIA
  have HOL : Hid (ob < w10.heap.size) := lt_of_block B10.out
  have HW10 : Hid (w.heap.size ≤ w10.heap.size) := X10.out.size
  go_upto_block 2 with fail
  go_cut [8] (fun v wx => ∃ CL : List Int, Hid (PtL S CL) ∧ ∃ ao cp, v = .slice ao S.length cp ∧ Hid (wx.ownsRow w10.heap.size 3 1 (.slice ao S.length cp) S.length (zC CL)) ∧ Hid (Below w10.heap.size w10 wx))
  case first =>
    go_wp2
    go_loopw [8, 9] (fun v u wr => ∃ k : Nat, k ≤ S.length ∧ u = .int .i64 k ∧ ∃ CL : List Int, Hid (CL.length = k ∧ ∀ i, i < k → 0 ≤ CL.getD i 0 ∧ CL.getD i 0 < S.getD i 0) ∧ Hid (wr.ownsRow w10.heap.size 3 1 v k (zC CL)) ∧ Hid (Below w10.heap.size w10 wr)) (fun _ u _ => S.length - (RowKit.intOf u).toNat)
    case atStart => exact ⟨0, Nat.zero_le _, rfl, [], hide ⟨rfl, fun i hi => by omega⟩, World.ownsRow_nil _ _ _ _, Below.refl _ _⟩
    case round =>
      obtain ⟨k, hk, rfl, CL, HCL, HO, HQ⟩ := hrel
      obtain ⟨la, lc, rfl, _⟩ := own_shape HO.out
      have X11 := hide (bt X10.out HQ.out (Nat.le_refl _))
      obtain ⟨b0, b1, s0, s1⟩ := HCELL.out _ X11.out
      have o8 := (B10.out.below HQ.out).cells.2.2.2.2.2.2.2.2
      by_cases hlt : k < S.length
      · have hlt' : (k : Int) < (S.length : Int) := by omega
        obtain ⟨sk, hsk⟩ : ∃ sk : Nat, S.getD k 0 = (sk : Int) := ⟨(S.getD k 0).toNat, by have := (HSZ.out.each _ (getD_mem hlt)).1; omega⟩
        have hsk1 : 0 < sk ∧ sk ≤ 256 := by have := (HSZ.out.each _ (getD_mem hlt)); omega
        have NXT : Hid (∀ (c : Nat), c < sk → ∀ (W : World), Below w10.heap.size w10 W → W.ownsRow w10.heap.size 3 1 (.slice la k lc) k (zC CL) → ∀ v4 (w13 : World), w13.ownsRow w10.heap.size 3 1 v4 (k + 1) (zC CL ++ [.int .i64 (c : Int)]) → AppAt (W.alloc (.cells #[.int .i64 (c : Int)] 3)) w13 (.slice la k lc) v4 → Hid ((CL ++ [(c : Int)]).length = k + 1 ∧ ∀ i, i < k + 1 → 0 ≤ (CL ++ [(c : Int)]).getD i 0 ∧ (CL ++ [(c : Int)]).getD i 0 < S.getD i 0) ∧ Hid (w13.ownsRow w10.heap.size 3 1 v4 (k + 1) (zC (CL ++ [(c : Int)]))) ∧ Hid (Below w10.heap.size w10 w13)) := fun c hc W q own v4 w13 h1 h2 => by
          have y : Below W.heap.size W (W.alloc (.cells #[.int .i64 (c : Int)] 3)) := al (Below.refl _ _) _
          have own2 := own_below own y
          have q2 := bt q y (Nat.le_refl _)
          refine ⟨⟨by rw [List.length_append, HCL.out.1]; rfl, fun i hi => ?_⟩, by unfold Hid; rw [zC_snoc]; exact h1, Below.trans q2 ((appK h2).below q2.size (fun j hj => (World.ownsRow.lt own2 j hj).1))⟩
          by_cases e : i < k
          · rw [List.getD_eq_getElem?_getD, List.getElem?_append_left (by rw [HCL.out.1]; exact e), ← List.getD_eq_getElem?_getD]
            exact HCL.out.2 i e
          · obtain rfl : i = k := by omega
            rw [List.getD_eq_getElem?_getD, List.getElem?_append_right (by rw [HCL.out.1]; exact Nat.le_refl _), HCL.out.1, Nat.sub_self, hsk]
            show (0 : Int) ≤ (c : Int) ∧ (c : Int) < (sk : Int)
            omega
        by_cases hc : k < CS.length
        · have hc' : (k : Int) < (CS.length : Int) := by omega
          have PK := hide (fun W => pick_any (CS.getD k 0) sk (HCF.out _ (getD_mem hc)) hsk1.1 (by omega) W)
          have lk := pkZ_lt (CS.getD k 0) (n := sk) hsk1.1
          rcases (HCS10.out.below HQ.out) with h0 | ⟨bc, oc, rfl, hbc, hcc⟩
          · rw [h0] at hc; cases hc
          have c9 := hcc k hc
          have ck := ((HS2.out.below X11.out).cell hlt)
          rw [hsk] at ck
          clear hcc hbc hsk
          generalize CS.getD k 0 = cv at *
          generalize pkZ cv sk = pc at *
          go_upto_region 19 with fail
          have Y12 : Hid (Below wr.heap.size wr wr.drew) := (Below.refl _ _).drew
          have HO12 : Hid (wr.drew.ownsRow w10.heap.size 3 1 (.slice la k lc) k (zC CL)) := HO.out
          have HQ12 : Hid (Below w10.heap.size w10 wr.drew) := HQ.out.drew
          have hu : wr.drew.cell? ⟨wb, 1, none⟩ = some (.pointer (some ⟨x, 0, none⟩)) ∧ wr.drew.cell? ⟨x, 0, none⟩ = some (.slice (some ⟨sb, 0, none⟩) S.length sc) ∧ wr.drew.cell? ⟨sb, k, none⟩ = some (.int .i64 (sk : Int)) ∧ wr.drew.cell? ⟨ob, 8, none⟩ = some (.slice (some ⟨bc, oc, none⟩) CS.length cc) ∧ wr.drew.cell? ⟨bc, oc + k, none⟩ = some (.int .i64 cv) := ⟨b1, s0, ck, o8, c9⟩
          clear b0 b1 s0 s1 ck o8 c9
          refine wp_unt (S := fun V => V = wr.drew) 16 (by kernel_rfl) ?_
          generalize wr.drew = w12 at *
          obtain ⟨q1, q2, q3, q4, q5⟩ := hu
          refine UntH.take (i := 0) (some 117) rfl rfl (by kernel_rfl) (by kernel_rfl) (by kernel_rfl) (by kernel_rfl) (fun _ _ _ _ h => h) (by rfl) rfl ?_
          apply Exists.intro
          refine ⟨fun w' hw' => ?_, ?_⟩
          · subst hw'
            go_simp
            first | done | rfl
          try simp only [Act.put, List.setIfInBounds_toArray, List.set_cons_zero, List.set_cons_succ]
          refine UntH.take (i := 1) (some 118) rfl rfl (by kernel_rfl) (by kernel_rfl) (by kernel_rfl) (by kernel_rfl) (fun _ _ _ _ h => h) (by rfl) rfl ?_
          apply Exists.intro
          refine ⟨fun w' hw' => ?_, ?_⟩
          · subst hw'
            go_simp
            first | done | rfl
          try simp only [Act.put, List.setIfInBounds_toArray, List.set_cons_zero, List.set_cons_succ]
          refine UntH.take (i := 2) (some 119) rfl rfl (by kernel_rfl) (by kernel_rfl) (by kernel_rfl) (by kernel_rfl) (fun _ _ _ _ h => h) (by rfl) rfl ?_
          apply Exists.intro
          refine ⟨fun w' hw' => ?_, ?_⟩
          · subst hw'
            go_simp
            first | done | rfl
          try simp only [Act.put, List.setIfInBounds_toArray, List.set_cons_zero, List.set_cons_succ]
          refine UntH.take (i := 3) (some 120) rfl rfl (by kernel_rfl) (by kernel_rfl) (by kernel_rfl) (by kernel_rfl) (fun _ _ _ _ h => h) (by rfl) rfl ?_
          apply Exists.intro
          refine ⟨fun w' hw' => ?_, ?_⟩
          · subst hw'
            go_simp
            first | done | rfl
          try simp only [Act.put, List.setIfInBounds_toArray, List.set_cons_zero, List.set_cons_succ]
          refine UntH.take (i := 4) (some 121) rfl rfl (by kernel_rfl) (by kernel_rfl) (by kernel_rfl) (by kernel_rfl) (fun _ _ _ _ h => h) (by rfl) rfl ?_
          apply Exists.intro
          refine ⟨fun w' hw' => ?_, ?_⟩
          · subst hw'
            go_simp
            first | done | rfl
          try simp only [Act.put, List.setIfInBounds_toArray, List.set_cons_zero, List.set_cons_succ]
          refine UntH.take (i := 5) (some 122) rfl rfl (by kernel_rfl) (by kernel_rfl) (by kernel_rfl) (by kernel_rfl) (fun _ _ _ _ h => h) (by rfl) rfl ?_
          apply Exists.intro
          refine ⟨fun w' hw' => ?_, ?_⟩
          · subst hw'
            go_simp
            first | done | rfl
          try simp only [Act.put, List.setIfInBounds_toArray, List.set_cons_zero, List.set_cons_succ]
          refine UntH.take (i := 6) (some 123) rfl rfl (by kernel_rfl) (by kernel_rfl) (by kernel_rfl) (by kernel_rfl) (fun _ _ _ _ h => h) (by rfl) rfl ?_
          apply Exists.intro
          refine ⟨fun w' hw' => ?_, ?_⟩
          · subst hw'
            go_simp
            first | done | rfl
          try simp only [Act.put, List.setIfInBounds_toArray, List.set_cons_zero, List.set_cons_succ]
          refine UntH.take (i := 7) (some 124) rfl rfl (by kernel_rfl) (by kernel_rfl) (by kernel_rfl) (by kernel_rfl) (fun _ _ _ _ h => h) (by rfl) rfl ?_
          apply Exists.intro
          refine ⟨fun w' hw' => ?_, ?_⟩
          · subst hw'
            go_simp
            first | done | rfl
          try simp only [Act.put, List.setIfInBounds_toArray, List.set_cons_zero, List.set_cons_succ]
          refine UntH.take (i := 8) (some 125) rfl rfl (by kernel_rfl) (by kernel_rfl) (by kernel_rfl) (by kernel_rfl) (fun _ _ _ _ h => h) (by rfl) rfl ?_
          apply Exists.intro
          refine ⟨fun w' hw' => ?_, ?_⟩
          · subst hw'
            go_simp
            first | done | rfl
          try simp only [Act.put, List.setIfInBounds_toArray, List.set_cons_zero, List.set_cons_succ]
          refine UntH.take (i := 9) (some 126) rfl rfl (by kernel_rfl) (by kernel_rfl) (by kernel_rfl) (by kernel_rfl) (fun _ _ _ _ h => h) (by rfl) rfl ?_
          apply Exists.intro
          refine ⟨fun w' hw' => ?_, ?_⟩
          · subst hw'
            go_simp
            first | done | rfl
          try simp only [Act.put, List.setIfInBounds_toArray, List.set_cons_zero, List.set_cons_succ]
          refine UntH.take (i := 10) (some 127) rfl rfl (by kernel_rfl) (by kernel_rfl) (by kernel_rfl) (by kernel_rfl) (fun _ _ _ _ h => h) (by rfl) rfl ?_
          apply Exists.intro
          refine ⟨fun w' hw' => ?_, ?_⟩
          · subst hw'
            go_simp
            first | done | rfl
          try simp only [Act.put, List.setIfInBounds_toArray, List.set_cons_zero, List.set_cons_succ]
          refine UntH.take (i := 11) (some 128) rfl rfl (by kernel_rfl) (by kernel_rfl) (by kernel_rfl) (by kernel_rfl) (fun _ _ _ _ h => h) (by rfl) rfl ?_
          apply Exists.intro
          refine ⟨fun w' hw' => ?_, ?_⟩
          · subst hw'
            go_simp
            first | done | rfl
          try simp only [Act.put, List.setIfInBounds_toArray, List.set_cons_zero, List.set_cons_succ]
          refine UntH.take (i := 12) (some 129) rfl rfl (by kernel_rfl) (by kernel_rfl) (by kernel_rfl) (by kernel_rfl) (fun _ _ _ _ h => h) (by rfl) rfl ?_
          apply Exists.intro
          refine ⟨fun w' hw' => ?_, ?_⟩
          · subst hw'
            go_simp
            first | done | rfl
          try simp only [Act.put, List.setIfInBounds_toArray, List.set_cons_zero, List.set_cons_succ]
          refine UntH.take (i := 13) (some 130) rfl rfl (by kernel_rfl) (by kernel_rfl) (by kernel_rfl) (by kernel_rfl) (fun _ _ _ _ h => h) (by rfl) rfl ?_
          apply Exists.intro
          refine ⟨fun w' hw' => ?_, ?_⟩
          · subst hw'
            go_simp
            first | done | rfl
          try simp only [Act.put, List.setIfInBounds_toArray, List.set_cons_zero, List.set_cons_succ]
          refine UntH.take (i := 14) (some 131) rfl rfl (by kernel_rfl) (by kernel_rfl) (by kernel_rfl) (by kernel_rfl) (fun _ _ _ _ h => h) (by rfl) rfl ?_
          apply Exists.intro
          refine ⟨fun w' hw' => ?_, ?_⟩
          · subst hw'
            go_simp
            first | done | rfl
          try simp only [Act.put, List.setIfInBounds_toArray, List.set_cons_zero, List.set_cons_succ]
          refine UntH.step (i := 15) (by kernel_rfl) rfl (fun K hK => ?_)
          go_simp
          refine (PK.out w12).mono ?_
          rintro e w13 ⟨rfl, hw8⟩
          have hw9 := hw8.symm
          clear hw8
          subst hw9
          go_simp
          refine hK _ _ rfl ?_
          clear hK K PK
          refine UntH.last (by kernel_rfl) rfl (by kernel_rfl) (by kernel_rfl) (fun K hK => ?_)
          go_simp
          refine hK _ _ ?_
          clear hK K q1 q2 q3 q4 q5
          have HOA := hide (own_below HO12.out (al (Below.refl w12.heap.size w12) (.cells #[.int .i64 (pc : Int)] 3)))
          have SZA : Hid (w10.heap.size ≤ (w12.alloc (.cells #[.int .i64 (pc : Int)] 3)).heap.size) := Nat.le_trans HQ12.out.size (al (Below.refl w12.heap.size w12) _).size
          have NX2 := hide (NXT.out pc lk w12 HQ12.out HO12.out)
          clear NXT lk
          go_wp2_with (at_builtin; refine wpList_append_view rfl (.tmp 133) (.tmp 135) 22 rfl w10.heap.size 3 i3 (.int .i64 0) 1 8 Try.underlying22 hi3 hz30 hz31 hz32 rfl (by decide) _ k _ rfl HOA.out ⟨w12.heap.size, 0, none⟩ 1 1 [.int .i64 (pc : Int)] rfl rfl (one_new w12 _ _) (by simp [Value.oneCell']) (by decide) (by unfold maxLen; omega) (by omega) SZA.out ?_; intro v4 w14 h1 h2; obtain ⟨ao4, cap4, hv4, _⟩ := own_shape h1; subst hv4; have NX := hide (NX2.out _ w14 h1 h2); clear h1 h2)
          go_roundw
          case rel => exact ⟨k + 1, by omega, by go_num, _, NX.out.1, NX.out.2.1, NX.out.2.2⟩
          case measure => simp [RowKit.intOf]; omega
        · have hc' : ¬ (k : Int) < (CS.length : Int) := by omega
          have HOA := hide (own_below HO.out (al (Below.refl wr.heap.size wr) (.cells #[.int .i64 0] 3)))
          have SZA : Hid (w10.heap.size ≤ (wr.alloc (.cells #[.int .i64 0] 3)).heap.size) := Nat.le_trans HQ.out.size (al (Below.refl wr.heap.size wr) _).size
          have NX2 := hide (NXT.out 0 hsk1.1 wr HQ.out HO.out)
          clear NXT hsk s1
          go_wp2_with (at_builtin; refine wpList_append_view rfl (.tmp 133) (.tmp 135) 22 rfl w10.heap.size 3 i3 (.int .i64 0) 1 8 Try.underlying22 hi3 hz30 hz31 hz32 rfl (by decide) _ k _ rfl HOA.out ⟨wr.heap.size, 0, none⟩ 1 1 [.int .i64 0] rfl rfl (one_new wr _ _) (by simp [Value.oneCell']) (by decide) (by unfold maxLen; omega) (by omega) SZA.out ?_; intro v4 w14 h1 h2; obtain ⟨ao4, cap4, hv4, _⟩ := own_shape h1; subst hv4; have NX := hide (NX2.out _ w14 h1 h2); clear h1 h2)
          go_roundw
          case rel => exact ⟨k + 1, by omega, by go_num, _, NX.out.1, NX.out.2.1, NX.out.2.2⟩
          case measure => simp [RowKit.intOf]; omega
      · have hlt' : ¬ (k : Int) < (S.length : Int) := by omega
        obtain rfl : k = S.length := by omega
        have HPT : Hid (PtL S CL) := ⟨HCL.out.1, fun i hi => HCL.out.2 i (by rw [← HCL.out.1]; exact hi)⟩
        go_wp2
        go_meet
        exact ⟨CL, HPT, la, lc, rfl, HO, HQ⟩
  obtain ⟨CL, HPT, ca2, cc2, rfl, OC11, Y11⟩ := hcut
  obtain ⟨w11, hw11⟩ : ∃ w11, w11 = wc := ⟨_, rfl⟩
  subst hw11
  have B11 := hide (B10.out.below Y11.out)
  have R11 := hide (R10.out.below Y11.out)
  have X11 := hide (bt X10.out Y11.out (Nat.le_refl _))
  have OI11 := hide (own_below OI10.out Y11.out)
  have CBN : Hid (∀ k, (Value.slice ca2 S.length cc2).ownBlock = some k → ¬ k = ob ∧ ¬ k = rb) := fun k hk => by
    have h1 := (World.ownsRow.lt OC11.out k hk).1
    have h2 := HOL.out
    have h3 := lt_of_block R10.out
    exact ⟨by omega, by omega⟩
  clear B10 R10 X10 OI10 HCS10 HOL Y11
  obtain ⟨o0, o1, o2, o3, o4, o5, o6, o7, o8⟩ := B11.out.cells
  have ff := B11.out.fro 8
  go_upto_region 22 with fail
  have OI12 := hide (own_kept OI11.out ((Kept.refl (fun b => b = ob) w11).setCell (p := ⟨ob, 8, none⟩) rfl (.slice ca2 S.length cc2)) (fun k h3 h4 => OBN.out k h3 h4))
  have OC12 := hide (own_kept OC11.out ((Kept.refl (fun b => b = ob) w11).setCell (p := ⟨ob, 8, none⟩) rfl (.slice ca2 S.length cc2)) (fun k h3 h4 => (CBN.out k h3).1 h4))
  have B12 := hide (B11.out.setS (.slice ca2 S.length cc2))
  have X12 := hide (X11.out.setCell (p := ⟨ob, 8, none⟩) HOB.out.1 (.slice ca2 S.length cc2))
  have R12 := hide (R11.out.kept ((Kept.refl (fun b => b = ob) w11).setCell (p := ⟨ob, 8, none⟩) rfl (.slice ca2 S.length cc2)) (fun e => HOB.out.2.2 e.symm))
  generalize w11.setCell ⟨ob, 8, none⟩ (.slice ca2 S.length cc2) = w12 at *
  clear B11 X11 R11 o0 o1 o2 o3 o4 o5 o6 o7 o8 ff
  clear OI11 OC11
  have FINK : Hid (∀ W', Kept (fun b => b = rb) w12 W' → (∃ z2 I2 C2 l2 c2, Ending.returned (.agg #[.bool zn, .int .i64 zw, .int .i64 (kf : Int), .int .i64 (kg : Int), .int .i64 (kh : Int), .int .i64 (l : Int), .int .i64 (kc : Int), .slice ia2 s ic2, .slice ca2 S.length cc2]) = .returned (.agg (opA z2)) ∧ OpNr W' S N ⟨zn, zw, zf, zg, zh, zl, zc, ia, IN.length, ic, ca, CS.length, cc⟩ z2 I2 C2 l2 c2 ∧ (∀ b off, z2.ia = some ⟨b, off, none⟩ → w.heap.size ≤ b) ∧ (∀ b off, z2.ca = some ⟨b, off, none⟩ → w.heap.size ≤ b)) ∧ Below w.heap.size w W') := fun W' hk => by
    have oi := own_kept OI12.out hk (fun k h3 h4 => RBN.out k h3 h4)
    have oc := own_kept OC12.out hk (fun k h3 h4 => (CBN.out k h3).2 h4)
    have hfr : ∀ b off, ia2 = some ⟨b, off, none⟩ → w.heap.size ≤ b := fun b off e => by
      have h1 := (World.ownsRow.lt oi b (by rw [e]; rfl)).1
      have h2 := HW8.out
      omega
    have hfc : ∀ b off, ca2 = some ⟨b, off, none⟩ → w.heap.size ≤ b := fun b off e => by
      have h1 := (World.ownsRow.lt oc b (by rw [e]; rfl)).1
      have h2 := HW10.out
      omega
    rw [← HBL.out] at oi
    rw [← HPT.out.len] at oc
    obtain ⟨ao1, cp1, e1, at1⟩ := own_bat oi
    obtain ⟨ao2, cp2, e2, at2⟩ := own_zat oc
    injection e1 with e1 _ _
    injection e2 with e2 _ _
    subst e1 e2
    have := FIN.out W' kf kg kh l kc BL CL ia2 ic2 ca2 cc2 NUM.out.1 NUM.out.2.1 NUM.out.2.2.1 ll NUM.out.2.2.2 (by rw [HBL.out, HS.out]) at1 at2 HPT.out (X12.out.trans (hk.below X12.out.size (fun i hi => by have := HOB.out.2.1; omega))) hfr hfc
    rw [HBL.out, HPT.out.len] at this
    exact this
  obtain ⟨o0, o1, o2, o3, o4, o5, o6, o7, o8⟩ := B12.out.cells
  obtain ⟨⟨_, p0⟩, f0, ⟨_, p1⟩, f1, ⟨_, p2⟩, f2, ⟨_, p3⟩, f3, ⟨_, p4⟩, f4, ⟨_, p5⟩, f5, ⟨_, p6⟩, f6, ⟨_, p7⟩, f7, ⟨_, p8⟩, f8, hsb, hsk⟩ := st9 R12.out (.bool zn) (.int .i64 zw) (.int .i64 (kf : Int)) (.int .i64 (kg : Int)) (.int .i64 (kh : Int)) (.int .i64 (l : Int)) (.int .i64 (kc : Int)) (.slice ia2 s ic2) (.slice ca2 S.length cc2)
  have HSB := hide hsb
  have HSK := hide hsk
  clear B12 R12 X12 OI12 OC12 CBN OBN RBN FIN HCELL HCA HS0 HS2 HB HCF HOB HBL HPT hsb hsk
  go_wp2
  clear o0 o1 o2 o3 o4 o5 o6 o7 o8 p0 f0 p1 f1 p2 f2 p3 f3 p4 f4 p5 f5 p6 f6 p7 f7 p8 f8
  generalize (((((((((w12.setCell ⟨rb, 0, none⟩ (.bool zn)).setCell ⟨rb, 1, none⟩ (.int .i64 zw)).setCell ⟨rb, 2, none⟩ (.int .i64 (kf : Int))).setCell ⟨rb, 3, none⟩ (.int .i64 (kg : Int))).setCell ⟨rb, 4, none⟩ (.int .i64 (kh : Int))).setCell ⟨rb, 5, none⟩ (.int .i64 (l : Int))).setCell ⟨rb, 6, none⟩ (.int .i64 (kc : Int))).setCell ⟨rb, 7, none⟩ (.slice ia2 s ic2)).setCell ⟨rb, 8, none⟩ (.slice ca2 S.length cc2)) = w13 at *
  have RR : Bx w13 rb zn zw kf kg kh l kc (.slice ia2 s ic2) (.slice ca2 S.length cc2) := HSB.out
  obtain ⟨r0, r1, r2, r3, r4, r5, r6, r7, r8⟩ := RR.cells
  refine bodyPost_ret (v := .agg #[.bool zn, .int .i64 zw, .int .i64 (kf : Int), .int .i64 (kg : Int), .int .i64 (kh : Int), .int .i64 (l : Int), .int .i64 (kc : Int), .slice ia2 s ic2, .slice ca2 S.length cc2]) ?_ rfl ?_
  · rw [results_cell rfl]
    go_simp
  · exact FINK.out _ HSK.out
end
end Go.Proofs.Ytaafeflbanoncaa
