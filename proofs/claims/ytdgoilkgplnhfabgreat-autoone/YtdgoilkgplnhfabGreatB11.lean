/-
  What stands while an automaton's states are put together by their parts. No condition.
-/
import Derived.Test.YtdgoilkgplnhfabGreatB10
import Derived.Test.YtdgoilkgplnhfabGreatB09
namespace Go.Proofs.YtdgoilkgplnhfabGreat
open Go.RowKit Go.Lib Go.Maps
set_option maxRecDepth 100000 in
theorem merged1_any (ao : Option Addr) (cap xb b : Nat) (P : List Nat) (w : World) (hb : b < P.length) (hc : w.cell? ⟨xb, 0, none⟩ = some (.slice ao P.length cap)) (hat : NAt w ao P) :
    Calls Tryz.prog 62 #[.int .i64 (b : Nat), .pointer (some ⟨xb, 0, none⟩)] w fun e w' => e = .returned (.int .i64 ((gN P b : Nat) : Int)) ∧ Below w.heap.size w w' := by
  obtain ⟨g, off, rfl, _, c1⟩ := hat.get hb
  rw [← gN_lt hb] at c1
  have hlb : (b : Int) < (P.length : Int) := by omega
  go_enter Tryz.func62, Tryz.ntmps62
  go_wp2
  go_ret
  exact ⟨rfl, Below.refl _ _⟩
structure MgS (NX OU : List Nat) (W base : Nat) (w0 : World) (uv fv : Value) (num fst : List Nat) (xv ov : Value) (X : List Nat) (k j : Nat) (w : World) : Prop where
  rws : Rws w base [(uv, num), (fv, fst), (xv, X), (ov, (fst.take k).map (gN OU))]
  len : X.length = k * W + j
  kl : k ≤ fst.length
  jl : j ≤ W
  val : ∀ q, q < X.length → gN X q = gN num (gN NX (gN fst (q / W) * W + q % W))
  bel : Below base w0 w
section
variable {NX OU : List Nat} {W base : Nat} {w0 w w' : World} {uv fv : Value} {num fst : List Nat} {xv ov : Value} {X : List Nat} {k j : Nat}
theorem MgS.below (h : MgS NX OU W base w0 uv fv num fst xv ov X k j w) (hb : base ≤ w0.heap.size) (x : Below w.heap.size w w') : MgS NX OU W base w0 uv fv num fst xv ov X k j w' :=
  ⟨h.rws.below x, h.len, h.kl, h.jl, h.val, h.bel.trans (x.mono (Nat.le_trans hb h.bel.size))⟩
theorem MgS.put (h : MgS NX OU W base w0 uv fv num fst xv ov X k j w) (hb : base ≤ w0.heap.size) (hj : j < W) {v : Nat} (hv : v = gN num (gN NX (gN fst k * W + j))) {w5 : World} (x5 : Below w.heap.size w w5) {xv' : Value} (h1 : w'.ownsRow base 3 1 xv' (X.length + 1) (nCells X ++ [.int .i64 (v : Int)])) (h2 : AppAt w5 w' xv xv') :
    MgS NX OU W base w0 uv fv num fst xv' ov (X ++ [v]) k (j + 1) w' := by
  have h5 := h.below hb x5
  have r := h5.rws.app (i := 2) (by simp) (L := X) h1 h2
  have ox : w5.ownsRow base 3 1 xv X.length (nCells X) := h5.rws.own 2 (by simp)
  have hl : (X ++ [v]).length = X.length + 1 := by simp
  have hd := div_at (i := k) hj
  rw [← h.len] at hd
  refine ⟨r, by rw [hl, h.len]; omega, h.kl, hj, fun q hq => ?_, ?_⟩
  · by_cases h2 : q < X.length
    · rw [gN_left h2]; exact h.val q h2
    · obtain rfl : q = X.length := by omega
      rw [gN_last, hd.1, hd.2]; exact hv
  · obtain ⟨F, k6, hF⟩ : ∃ F : Nat → Prop, Kept F w5 w' ∧ (∀ b, F b → xv.ownBlock = some b) := by
      rcases h2 with ⟨q, a, b, c⟩ | ⟨a, b⟩
      · exact ⟨fun b => some q = some b, kept_of_grown c, fun b hb => a.trans hb⟩
      · exact ⟨fun _ => False, Kept.of_below (below_of_grown a), fun b hb => hb.elim⟩
    exact h5.bel.trans (k6.below (Nat.le_trans hb h5.bel.size) (fun b hf => (World.ownsRow.lt ox b (hF b hf)).1))
theorem MgS.row (h : MgS NX OU W base w0 uv fv num fst xv ov X k W w) (hb : base ≤ w0.heap.size) (hk : k < fst.length) {w5 : World} (x5 : Below w.heap.size w w5) {ov' : Value} {O : List Nat} (hO : O = (fst.take k).map (gN OU)) (h1 : w'.ownsRow base 3 1 ov' (O.length + 1) (nCells O ++ [.int .i64 ((gN OU (gN fst k) : Nat) : Int)])) (h2 : AppAt w5 w' ov ov') :
    MgS NX OU W base w0 uv fv num fst xv ov' X (k + 1) 0 w' := by
  have h5 := h.below hb x5
  subst hO
  have r := h5.rws.app (i := 3) (by simp) h1 h2
  have oo : w5.ownsRow base 3 1 ov _ (nCells _) := h5.rws.own 3 (by simp)
  refine ⟨?_, by rw [h.len, Nat.succ_mul]; omega, hk, Nat.zero_le _, h.val, ?_⟩
  · rw [List.take_succ_eq_append_getElem hk, List.map_append, ← gN_lt hk]
    exact r
  · obtain ⟨F, k6, hF⟩ : ∃ F : Nat → Prop, Kept F w5 w' ∧ (∀ b, F b → ov.ownBlock = some b) := by
      rcases h2 with ⟨q, a, b, c⟩ | ⟨a, b⟩
      · exact ⟨fun b => some q = some b, kept_of_grown c, fun b hb => a.trans hb⟩
      · exact ⟨fun _ => False, Kept.of_below (below_of_grown a), fun b hb => hb.elim⟩
    exact h5.bel.trans (k6.below (Nat.le_trans hb h5.bel.size) (fun b hf => (World.ownsRow.lt oo b (hF b hf)).1))
end
structure MgD (NX OU P : List Nat) (W base : Nat) (xv ov : Value) (num fst X : List Nat) (w : World) : Prop where
  rws : Rws w base [(xv, X), (ov, fst.map (gN OU))]
  nf : NumF (gN P) P.length (gN num) (gN fst) fst.length
  len : X.length = fst.length * W
  val : ∀ q, q < X.length → gN X q = gN num (gN NX (gN fst (q / W) * W + q % W))
theorem MgS.fin {NX OU P : List Nat} {W base g b : Nat} {w0 w w' : World} {uv fv : Value} {num fst : List Nat} {xv ov : Value} {X : List Nat} (h : MgS NX OU W base w0 uv fv num fst xv ov X fst.length 0 w) (hnf : NumF (gN P) P.length (gN num) (gN fst) fst.length) (k6 : Kept (fun i => i = g) w w') (hg : g < base) (hb : b ≤ base) : MgD NX OU P W b xv ov num fst X w' := by
  have hge : ∀ j (hj : j < 4) c, (([(uv, num), (fv, fst), (xv, X), (ov, (fst.take fst.length).map (gN OU))] : List RN)[j]'hj).1.ownBlock = some c → ¬ c = g := fun j hj c hc e => by
    have := (World.ownsRow.lt (show w.ownsRow base 3 1 _ _ (nCells _) from h.rws.own j hj) c hc).1
    omega
  have r' := h.rws.kept k6 hge
  refine ⟨?_, hnf, by have := h.len; omega, h.val⟩
  have o1 : OwnN w' base xv X := r'.own 2 (by simp)
  have o2 : OwnN w' base ov ((fst.take fst.length).map (gN OU)) := r'.own 3 (by simp)
  rw [List.take_length] at o2
  exact (Rws.nil w' b).two (o1.mono' hb) (o2.mono' hb) (fun c h1 h2 => h.rws.ap 2 (by simp) 3 (by simp) (by decide) c h1 h2)
theorem n_wf (n : Nat) (h : n ≤ 9223372036854775807) : (Lit.int .i64 (n : Int)).wf = true := by
  simp [Lit.wf, IntKind.min, IntKind.max, IntKind.signed, IntKind.bits]
  omega
set_option maxRecDepth 100000 in
set_option maxHeartbeats 8000000 in
theorem merged_any (bs : By) (na oa pa : Option Addr) (nc oc pc W : Nat) (NX OU P : List Nat) (w : World) (hn0 : 0 < OU.length) (hn1 : OU.length ≤ 65536) (hW : NX.length = OU.length * W) (hW0 : 0 < W) (hW1 : W ≤ 256) (hPl : P.length = OU.length) (hP : ∀ x ∈ P, x ≤ 4294967296) (hnl : ∀ x ∈ NX, x < OU.length) (hnc : NX.length ≤ nc) (hnx : NAt w na NX) (hou : NAt w oa OU) (hpa : NAt w pa P) :
    Calls Tryz.prog 38 #[auV bs na NX.length nc oa OU.length oc, .slice pa P.length pc] w fun e w' => (∃ xa xn xc oa' on oc', e = .returned (auV bs xa xn xc oa' on oc') ∧ ∃ num fst X, MgD NX OU P W w.heap.size (.slice xa xn xc) (.slice oa' on oc') num fst X w') ∧ Below w.heap.size w w' := by
  obtain ⟨i3, hi3, hz30, hz31, hz32⟩ := info_parts Tryz.info3n
  have hmf : ∀ (fn : Fn) (first cap : Array Value) (w : World), (Instr.makeFunc fn first cap).run Tryz.prog w = .ok (.func fn first cap) w := fun _ _ _ _ => rfl
  have hxl : NX.length ≤ 16777216 := by
    have := Nat.mul_le_mul hn1 hW1
    rw [← hW] at this
    omega
  have hdiv : NX.length / OU.length = W := by rw [hW]; exact Nat.mul_div_cancel_left W hn0
  have hW2 : ∃ w2, w2 = (((w.alloc (.cells #[.string ⟨bs.toArray⟩, .slice na NX.length nc, .slice oa OU.length oc] 24)).alloc (.cells #[.slice pa P.length pc] 22)).alloc (.cells #[.string ⟨#[]⟩, .slice none 0 0, .slice none 0 0] 24)) ∧ Below w.heap.size w w2 ∧ w2.heap[w.heap.size]? = some (.cells #[.string ⟨bs.toArray⟩, .slice na NX.length nc, .slice oa OU.length oc] 24 (0, 0)) ∧ w2.heap[w.heap.size + 1]? = some (.cells #[.slice pa P.length pc] 22 (0, 0)) ∧ w2.heap[w.heap.size + 1 + 1]? = some (.cells #[.string ⟨#[]⟩, .slice none 0 0, .slice none 0 0] 24 (0, 0)) ∧ w2.heap.size = w.heap.size + 3 := by
    have B1 := heap_alloc_new w (.cells #[.string ⟨bs.toArray⟩, .slice na NX.length nc, .slice oa OU.length oc] 24)
    have s1 : (w.alloc (.cells #[.string ⟨bs.toArray⟩, .slice na NX.length nc, .slice oa OU.length oc] 24)).heap.size = w.heap.size + 1 := by simp
    have hb1 : Below w.heap.size w (w.alloc (.cells #[.string ⟨bs.toArray⟩, .slice na NX.length nc, .slice oa OU.length oc] 24)) := al (Below.refl _ _) _
    generalize w.alloc (.cells #[.string ⟨bs.toArray⟩, .slice na NX.length nc, .slice oa OU.length oc] 24) = wa at *
    have B2 := heap_alloc_new wa (.cells #[.slice pa P.length pc] 22)
    have Y2 : Below wa.heap.size wa (wa.alloc (.cells #[.slice pa P.length pc] 22)) := al (Below.refl _ _) _
    have s2 : (wa.alloc (.cells #[.slice pa P.length pc] 22)).heap.size = w.heap.size + 1 + 1 := by simp [s1]
    have B3 := heap_alloc_new (wa.alloc (.cells #[.slice pa P.length pc] 22)) (.cells #[.string ⟨#[]⟩, .slice none 0 0, .slice none 0 0] 24)
    have Y3 : Below (wa.alloc (.cells #[.slice pa P.length pc] 22)).heap.size (wa.alloc (.cells #[.slice pa P.length pc] 22)) ((wa.alloc (.cells #[.slice pa P.length pc] 22)).alloc (.cells #[.string ⟨#[]⟩, .slice none 0 0, .slice none 0 0] 24)) := al (Below.refl _ _) _
    rw [s1] at B2
    rw [s2] at B3
    have b1' := (Y2.block _ (lt_of_block B1)).trans B1
    exact ⟨_, rfl, bt (bt hb1 Y2 (Nat.le_refl _)) Y3 (Nat.le_refl _), (Y3.block _ (lt_of_block b1')).trans b1', (Y3.block _ (lt_of_block B2)).trans B2, B3, by simp [s1]⟩
  obtain ⟨w2, hw2, X2, B1, B2, B3, hs2⟩ := hW2
  have HX2 := hide X2
  have HB1 := hide B1
  have HB2 := hide B2
  have HB3 := hide B3
  have HS2 := hide hs2
  have HNX := hide hnx
  have HOU := hide hou
  have HPA := hide hpa
  have HPL := hide hPl
  have HWL := hide hW
  have HPB := hide hP
  have HNL := hide hnl
  clear X2 B1 B2 B3 hs2 hnx hou hpa hPl hW hP hnl
  have hp1 : P.length ≤ 65536 := by have := HPL.out; omega
  have HN := hide (numI_any P.length (.pointer (some ⟨w.heap.size + 1, 0, none⟩)) (fun b => .int .i64 ((gN P b : Nat) : Int)) (fun b => .int .i64 ((gN P b : Nat) : Int)) w2 (by omega)
    (fun i hi => keyOf_int_mk Tryz.underlying3 (n_wf _ (by have := HPB.out (gN P i) (by rw [gN_lt hi]; exact List.getElem_mem hi); omega))) (fun i _ => trivial)
    (fun i hi W x => merged1_any pa pc (w.heap.size + 1) i P W hi (by rw [cell_of_row _ _ _ _ _ _ ((x.block _ (lt_of_block HB2.out)).trans HB2.out)]; rfl) (HPA.out.below (bt HX2.out x (Nat.le_refl _)))))
  have hcb : w2.cell? ⟨w.heap.size + 1, 0, none⟩ = some (.slice pa P.length pc) := by rw [cell_of_row _ _ _ _ _ _ HB2.out]; rfl
  unfold auV
  go_enter Tryz.func38, Tryz.ntmps38
  go_wp2_with (fail)
  rw [← hw2]
  refine HN.out.mono ?_
  rintro e w3 ⟨⟨uv, fv, rfl, num, fst, hd⟩, x3⟩
  clear HN hw2 hcb
  have c3 : ∀ W, Below w2.heap.size w2 W → W.cell? ⟨w.heap.size, 0, none⟩ = some (.string ⟨bs.toArray⟩) ∧ W.cell? ⟨w.heap.size, 1, none⟩ = some (.slice na NX.length nc) ∧ W.cell? ⟨w.heap.size, 2, none⟩ = some (.slice oa OU.length oc) := fun W x => by
    have := (x.block _ (lt_of_block HB1.out)).trans HB1.out
    exact ⟨by rw [cell_of_row _ _ _ _ _ _ this]; rfl, by rw [cell_of_row _ _ _ _ _ _ this]; rfl, by rw [cell_of_row _ _ _ _ _ _ this]; rfl⟩
  have HC := hide c3
  have HD := hide hd
  have XX3 := hide x3
  have R3 : Hid (Rws w3 w2.heap.size [(uv, num), (fv, fst)]) := (Rws.nil w3 w2.heap.size).two hd.o1 hd.o2 hd.ap
  have hnf : NumF (gN P) P.length (gN num) (gN fst) fst.length := hd.nf.lits (fun b c h => by injection h with _ h; exact Int.ofNat.inj h) (fun b c h => by have h' : gN P b = gN P c := h; rw [h'])
  have HNF := hide hnf
  have hfl : fst.length ≤ 65536 := by
    have := pigeon P.length fst.length (gN fst) hnf.fstlt (fun i h1 j h2 e => by rw [← hnf.numfst i h1, ← hnf.numfst j h2, e])
    omega
  have hnl : num.length = P.length := hd.len
  have HNM := hide hnl
  obtain ⟨d0, d1, d2⟩ := c3 w3 x3
  have HWD := hide (width_any bs na oa NX.length nc OU.length oc w3 (by omega) hn0)
  rw [hdiv] at HWD
  obtain ⟨fa, fc, hfv, _⟩ := own_shape (show w3.ownsRow w2.heap.size 3 1 fv fst.length (nCells fst) from R3.out.own 1 (by simp))
  subst hfv
  obtain ⟨ua, uc, huv, _⟩ := own_shape (show w3.ownsRow w2.heap.size 3 1 uv num.length (nCells num) from R3.out.own 0 (by simp))
  subst huv
  clear c3 x3 hd hnf hdiv hnl
  go_wp2_with (fail)
  refine HWD.out.mono ?_
  rintro e w4 ⟨rfl, x4⟩
  have X4 := hide (bt XX3.out x4 (Nat.le_refl _))
  have R4 := hide (R3.out.below x4)
  have hmm : fst.length * W ≤ 16777216 := by have := Nat.mul_le_mul hfl hW1; omega
  have hmul : IntKind.i64.wrap ((fst.length : Int) * (W : Int)) = ((fst.length * W : Nat) : Int) := by rw [show (fst.length : Int) * (W : Int) = ((fst.length * W : Nat) : Int) by simp]; exact w64_n _ (by omega)
  have HS0 : Hid (∀ (w5 : World) (g5 c5 : Nat), w5.ownsRow w2.heap.size 3 1 (.slice (some ⟨g5, 0, none⟩) 0 c5) 0 [] → w4.grownBy w5 none → w4.heap.size ≤ g5 → MgS NX OU W w2.heap.size w2 (.slice ua num.length uc) (.slice fa fst.length fc) num fst (.slice (some ⟨g5, 0, none⟩) 0 c5) (.slice none 0 0) [] 0 0 w5) := fun w5 g5 c5 p1 p2 hg => by
    have x5 := below_of_grown p2
    have o5 : OwnN w5 w2.heap.size (.slice (some ⟨g5, 0, none⟩) 0 c5) [] := p1
    have r5 := R4.out.cons x5 o5 (fun b hb => by have e : g5 = b := Option.some.inj hb; omega)
    have r6 := r5.cons (Below.refl _ _) (OwnN.nil w5 w2.heap.size) (fun b hb => by cases hb)
    exact ⟨r6, by simp, Nat.zero_le _, Nat.zero_le _, fun q hq => by simp at hq, bt X4.out x5 (Nat.le_refl _)⟩
  clear x4 HWD d0 d1 d2 R3 R4
  generalize hFW : fst.length * W = FW at *
  go_wp2_with (at_make; refine wpList_make_own _ rfl (.const (.int .i64 0)) (.tmp 26) 22 rfl w2.heap.size 3 i3 (.int .i64 0) 1 Tryz.underlying22 hi3 hz30 hz31 .i64 .i64 _ FW rfl rfl rfl (by rw [hz32]; omega) (by unfold maxLen; omega) X4.out.size ?_; intro w5 p1 p2; have S0 := hide (HS0.out w5 _ _ p1 p2 (Nat.le_refl _)); clear p1 p2)
  clear HS0 hFW
  go_loopg [8, 9, 30] (fst.length + 1) (fun g xv ov x wr => ∃ (k : Nat) (X : List Nat), x = .int .i64 (k : Nat) ∧ Hid (MgS NX OU W w2.heap.size w2 (.slice ua num.length uc) (.slice fa fst.length fc) num fst xv ov X k 0 wr) ∧ fst.length - k < g)
  case atStart => exact ⟨0, [], rfl, S0, by omega⟩
  case round =>
    obtain ⟨k, X, rfl, S, hg⟩ := hrel
    have HG := hide hg
    clear hg S0
    have hkl := S.out.kl
    obtain ⟨xa, xc, hxv⟩ := OwnN.shape (S.out.rws.own 2 (by simp))
    obtain ⟨va, vc, hov⟩ := OwnN.shape (S.out.rws.own 3 (by simp))
    simp only [List.getElem_cons_succ, List.getElem_cons_zero] at hxv hov
    subst hxv hov
    by_cases hk : k < fst.length
    · have hk' : (k : Int) < (fst.length : Int) := by omega
      obtain ⟨fg, rfl, cf⟩ := OwnN.gcell (S.out.rws.own 1 (by simp)) hk
      have hsl : gN fst k < OU.length := by have := HNF.out.fstlt k hk; have := HPL.out; omega
      have HSK : Hid (gN fst k = gN fst k) := rfl
      obtain ⟨s, hs⟩ : ∃ s, s = gN fst k := ⟨_, rfl⟩
      rw [← hs] at cf hsl
      have HS := hide hs
      clear hs HSK
      have hmW : s * W + W ≤ NX.length := by
        have := Nat.mul_le_mul_right W (show s + 1 ≤ OU.length by omega)
        rw [Nat.succ_mul, ← HWL.out] at this
        exact this
      have f1 : IntKind.i64.wrap ((s : Int) * (W : Int)) = ((s * W : Nat) : Int) := by rw [show (s : Int) * (W : Int) = ((s * W : Nat) : Int) by simp]; exact w64_n _ (by omega)
      have f2 : IntKind.i64.wrap ((s : Int) + 1) = ((s + 1 : Nat) : Int) := by rw [show (s : Int) + 1 = ((s + 1 : Nat) : Int) by simp]; exact w64_n _ (by omega)
      have f3 : IntKind.i64.wrap (((s + 1 : Nat) : Int) * (W : Int)) = ((s * W + W : Nat) : Int) := by rw [show ((s + 1 : Nat) : Int) * (W : Int) = ((s * W + W : Nat) : Int) by rw [← Nat.succ_mul]; simp]; exact w64_n _ (by omega)
      have f3' : IntKind.i64.wrap (((s : Int) + 1) * (W : Int)) = ((s * W + W : Nat) : Int) := by rw [show ((s : Int) + 1) * (W : Int) = ((s * W + W : Nat) : Int) by rw [← Nat.succ_mul]; simp]; exact w64_n _ (by omega)
      obtain ⟨nb, off, rfl, -, -⟩ := (HNX.out.below (bt HX2.out S.out.bel (Nat.le_refl _))).get (show s * W < NX.length by omega)
      obtain ⟨_, e1, _⟩ := HC.out wr S.out.bel
      have HSW : Hid (∀ j, j < W → s * W + j < NX.length) := fun j hj => by omega
      generalize hm : s * W = m at *
      have HMM := hide hm
      clear hm
      have h1 : (m : Int) ≤ ((m + W : Nat) : Int) := by omega
      have h2 : ((m + W : Nat) : Int) ≤ (nc : Int) := by omega
      have h3 : ((m + W : Nat) : Int) ≤ (NX.length : Int) := by omega
      have hmw : m + W - m = W := by omega
      obtain ⟨O, hO⟩ : ∃ O, (fst.take k).map (gN OU) = O := ⟨_, rfl⟩
      rw [hO]
      have HO := hide hO
      have S' : Hid (MgS NX OU W w2.heap.size w2 (.slice ua num.length uc) (.slice (some ⟨fg, 0, none⟩) fst.length fc) num fst (.slice xa X.length xc) (.slice va O.length vc) X k 0 wr) := by rw [← hO]; exact S
      clear S hO
      go_wp2
      rw [hmw]
      go_loopg [8, 45] (W + 1) (fun g xv x wr => ∃ (j : Nat) (X : List Nat), x = .int .i64 (j : Nat) ∧ Hid (MgS NX OU W w2.heap.size w2 (.slice ua num.length uc) (.slice (some ⟨fg, 0, none⟩) fst.length fc) num fst xv (.slice va O.length vc) X k j wr) ∧ W - j < g)
      case atStart => exact ⟨0, X, rfl, S', by omega⟩
      case round =>
        obtain ⟨j, X, rfl, S, hg2⟩ := hrel
        have HG2 := hide hg2
        clear hg2 S' cf e1
        obtain ⟨xa, xc, hxv⟩ := OwnN.shape (S.out.rws.own 2 (by simp))
        simp only [List.getElem_cons_succ, List.getElem_cons_zero] at hxv
        subst hxv
        have hjl := S.out.jl
        have hXl : X.length ≤ 33554432 := by
          have h4 := S.out.len
          have h5 := Nat.mul_le_mul (show k ≤ 65536 by omega) hW1
          omega
        by_cases hj : j < W
        · have hj' : (j : Int) < (W : Int) := by omega
          have hq := HSW.out j hj
          obtain ⟨nb', off', e9, _, cx⟩ := (HNX.out.below (bt HX2.out S.out.bel (Nat.le_refl _))).get hq
          simp only [Option.some.injEq, Addr.mk.injEq] at e9
          obtain ⟨rfl, rfl, -⟩ := e9
          have htl := HNL.out _ (List.getElem_mem hq)
          rw [← gN_lt hq] at cx htl
          obtain ⟨t, ht⟩ : ∃ t, gN NX (m + j) = t := ⟨_, rfl⟩
          rw [ht] at cx htl
          have htu : t < num.length := by have := HNM.out; have := HPL.out; omega
          obtain ⟨ug, rfl, cu⟩ := OwnN.gcell (S.out.rws.own 0 (by simp)) htu
          have htu' : (t : Int) < (num.length : Int) := by omega
          obtain ⟨v, hv⟩ : ∃ v, gN num t = v := ⟨_, rfl⟩
          rw [hv] at cu
          have HV : Hid (v = gN num (gN NX (gN fst k * W + j))) := by unfold Hid; rw [← HS.out, HMM.out, ht, hv]
          rw [show off + (m + j) = off + m + j by omega] at cx
          have O6 : Hid ((wr.alloc (.cells #[.int .i64 (v : Nat)] 3)).ownsRow w2.heap.size 3 1 (.slice xa X.length xc) X.length (nCells X)) := own_below (show wr.ownsRow w2.heap.size 3 1 (.slice xa X.length xc) X.length (nCells X) from S.out.rws.own 2 (by simp)) (NmP.x5 _ _)
          have HN6 := hide (one_int wr v 3)
          have HS6 : Hid (w2.heap.size ≤ (wr.alloc (.cells #[.int .i64 (v : Nat)] 3)).heap.size) := Nat.le_trans S.out.bel.size (NmP.x5 wr v).size
          have HPA2 := hide (fun (w6 : World) (v6 : Value) g1 g2 => S.out.put (w' := w6) (xv' := v6) (Nat.le_refl _) hj HV.out (NmP.x5 wr v) g1 g2)
          clear ht hv hq
          go_wp2_with (at_builtin; refine wpList_append_view rfl (.tmp 49) (.tmp 54) 22 rfl w2.heap.size 3 i3 (.int .i64 0) 1 8 Tryz.underlying22 hi3 hz30 hz31 hz32 rfl (by decide) _ X.length (nCells X) rfl O6.out ⟨wr.heap.size, 0, none⟩ 1 1 [.int .i64 (v : Nat)] rfl rfl HN6.out (by simp [Value.oneCell']) (by decide) (by unfold maxLen; omega) (by omega) HS6.out ?_; intro v6 w6 g1 g2; have S6 := hide (HPA2.out w6 v6 g1 g2); clear g1 g2)
          go_roundg (W - (j + 1) + 1)
          case measure => have := HG2.out; omega
          case rel => exact ⟨j + 1, X ++ [v], by first | rfl | go_num | (congr 1; omega), S6, by omega⟩
        · have hj' : ¬ (j : Int) < (W : Int) := by omega
          obtain rfl : W = j := by omega
          obtain ⟨ob, ooff, rfl, hob, co⟩ := (HOU.out.below (bt HX2.out S.out.bel (Nat.le_refl _))).get hsl
          obtain ⟨_, _, e2⟩ := HC.out wr S.out.bel
          obtain ⟨y, hy⟩ : ∃ y, OU[s] = y := ⟨_, rfl⟩
          have HY : Hid (gN OU (gN fst k) = y) := by unfold Hid; rw [← HS.out, gN_lt hsl, hy]
          rw [hy] at co
          have hol : O.length ≤ 65536 := by have := HO.out; rw [← this, List.length_map, List.length_take]; omega
          have hsl' : (s : Int) < (OU.length : Int) := by omega
          have O7 : Hid ((wr.alloc (.cells #[.int .i64 (y : Nat)] 3)).ownsRow w2.heap.size 3 1 (.slice va O.length vc) O.length (nCells O)) := own_below (show wr.ownsRow w2.heap.size 3 1 (.slice va O.length vc) O.length (nCells O) from by have := S.out.rws.own 3 (by simp); simp only [List.getElem_cons_succ, List.getElem_cons_zero, HO.out] at this; exact this) (NmP.x5 _ _)
          have HN7 := hide (one_int wr y 3)
          have HS7 : Hid (w2.heap.size ≤ (wr.alloc (.cells #[.int .i64 (y : Nat)] 3)).heap.size) := Nat.le_trans S.out.bel.size (NmP.x5 wr y).size
          have HROW := hide (fun (w6 : World) (v6 : Value) g1 g2 => S.out.row (w' := w6) (ov' := v6) (Nat.le_refl _) hk (NmP.x5 wr y) (O := O) HO.out.symm g1 g2)
          rw [HY.out] at HROW
          have hkw : IntKind.i64.wrap ((k : Int) + 1) = ((k + 1 : Nat) : Int) := by simp [IntKind.wrap, IntKind.bits, IntKind.signed]; omega
          clear hy
          go_wp2_with (at_builtin; refine wpList_append_view rfl (.tmp 57) (.tmp 63) 22 rfl w2.heap.size 3 i3 (.int .i64 0) 1 8 Tryz.underlying22 hi3 hz30 hz31 hz32 rfl (by decide) _ O.length (nCells O) rfl O7.out ⟨wr.heap.size, 0, none⟩ 1 1 [.int .i64 (y : Nat)] rfl rfl HN7.out (by simp [Value.oneCell']) (by decide) (by unfold maxLen; omega) (by omega) HS7.out ?_; intro v6 w6 g1 g2; have S6 := hide (HROW.out w6 v6 g1 g2); clear g1 g2)
          go_roundg (fst.length - (k + 1) + 1)
          case measure => have := HG.out; omega
          case rel => exact ⟨k + 1, X, by first | rfl | go_num | (congr 1; omega), S6, by omega⟩
    · have hk' : ¬ (k : Int) < (fst.length : Int) := by omega
      obtain rfl : k = fst.length := by omega
      obtain ⟨O, hO⟩ : ∃ O, (fst.take fst.length).map (gN OU) = O := ⟨_, rfl⟩
      rw [hO]
      have S' : Hid (MgS NX OU W w2.heap.size w2 (.slice ua num.length uc) (.slice fa fst.length fc) num fst (.slice xa X.length xc) (.slice va O.length vc) X fst.length 0 wr) := by rw [← hO]; exact S
      clear S hO
      have S := S'
      clear S'
      obtain ⟨e0, _, _⟩ := HC.out wr S.out.bel
      have hlt3 := lt_of_block HB3.out
      obtain ⟨c0, f0, c1, f1, c2, f2, B6, k6⟩ := st3 ((S.out.bel.block _ hlt3).trans HB3.out) (.string ⟨bs.toArray⟩) (.slice xa X.length xc) (.slice va O.length vc)
      have B0 := (S.out.bel.block _ hlt3).trans HB3.out
      have Q1 := block_setCell B0 0 (.string ⟨bs.toArray⟩)
      have Q2 := block_setCell Q1 1 (.slice xa X.length xc)
      have d0 : (wr.setCell ⟨w.heap.size + 1 + 1, 0, none⟩ (.string ⟨bs.toArray⟩)).cell? ⟨w.heap.size + 1 + 1, 0, none⟩ = some (.string ⟨bs.toArray⟩) := by rw [cell_of_row _ _ _ _ _ _ Q1]; rfl
      have d1 : ((wr.setCell ⟨w.heap.size + 1 + 1, 0, none⟩ (.string ⟨bs.toArray⟩)).setCell ⟨w.heap.size + 1 + 1, 1, none⟩ (.slice xa X.length xc)).cell? ⟨w.heap.size + 1 + 1, 1, none⟩ = some (.slice xa X.length xc) := by rw [cell_of_row _ _ _ _ _ _ Q2]; rfl
      have d2 : (((wr.setCell ⟨w.heap.size + 1 + 1, 0, none⟩ (.string ⟨bs.toArray⟩)).setCell ⟨w.heap.size + 1 + 1, 1, none⟩ (.slice xa X.length xc)).setCell ⟨w.heap.size + 1 + 1, 2, none⟩ (.slice va O.length vc)).cell? ⟨w.heap.size + 1 + 1, 2, none⟩ = some (.slice va O.length vc) := by rw [cell_of_row _ _ _ _ _ _ B6]; rfl
      clear B0 Q1 Q2
      have hsz := HS2.out
      have HF := hide (S.out.fin HNF.out k6 (by omega) (b := w.heap.size) (by omega))
      have HXF := hide ((bt HX2.out S.out.bel (Nat.le_refl _)).trans (k6.below (by have := S.out.bel.size; omega) (fun b hb => by omega)))
      clear B6 k6
      go_wp2
      refine bodyPost_ret (by simp [results, Tryz.results38, go_sem, d0, d1, d2]; try rfl) rfl ?_
      exact ⟨⟨_, _, _, _, _, _, rfl, num, fst, X, HF.out⟩, HXF.out⟩
def ldB (NX : List Nat) (W c s : Nat) : List Nat := (List.range 256).map fun i => if i < s then gN NX (i * W + c) else 0
def mkB (B : List Nat) : Array Value := (B.map fun (b : Nat) => Value.int .u8 (b : Int)).toArray
theorem ldB_len (NX : List Nat) (W c s : Nat) : (ldB NX W c s).length = 256 := by simp [ldB]
theorem mkB_size (NX : List Nat) (W c s : Nat) : (mkB (ldB NX W c s)).size = 256 := by simp [mkB, ldB]
theorem mkB_all (B : List Nat) : (mkB B).all (·.oneCell') = true := by simp [mkB, Value.oneCell']
theorem ldB_zero (NX : List Nat) (W c : Nat) : mkB (ldB NX W c 0) = Array.replicate 256 (Value.int .u8 0) := by
  apply Array.ext
  · simp [mkB, ldB]
  · intro i h1 h2
    simp [mkB, ldB]
theorem ldB_get (NX : List Nat) (W c s i : Nat) (hi : i < 256) : gN (ldB NX W c s) i = if i < s then gN NX (i * W + c) else 0 := by
  rw [gN_lt (by rw [ldB_len]; exact hi)]
  simp [ldB]
theorem mkB_get (NX : List Nat) (W c s i : Nat) (hi : i < 256) : (mkB (ldB NX W c s))[i]? = some (.int .u8 ((if i < s then gN NX (i * W + c) else 0 : Nat) : Int)) := by
  have h : i < (ldB NX W c s).length := by rw [ldB_len]; exact hi
  unfold mkB
  rw [List.getElem?_toArray, List.getElem?_map, List.getElem?_eq_getElem h, ← gN_lt h, ldB_get _ _ _ _ _ hi]
  rfl
theorem mkB_set (NX : List Nat) (W c s : Nat) (hs : s < 256) : (mkB (ldB NX W c s)).set! s (.int .u8 ((gN NX (s * W + c) : Nat) : Int)) = mkB (ldB NX W c (s + 1)) := by
  apply Array.ext_getElem?
  intro i
  rw [Array.set!_eq_setIfInBounds, Array.getElem?_setIfInBounds]
  by_cases hi : i < 256
  · rw [mkB_get _ _ _ (s + 1) _ hi, mkB_size]
    by_cases e : s = i
    · subst e
      rw [if_pos rfl, if_pos hs, if_pos (Nat.lt_succ_self _)]
    · rw [if_neg e, mkB_get _ _ _ s _ hi]
      by_cases h2 : i < s
      · rw [if_pos h2, if_pos (by omega)]
      · rw [if_neg h2, if_neg (by omega)]
  · rw [if_neg (by omega), Array.getElem?_eq_none (by rw [mkB_size]; omega), Array.getElem?_eq_none (by rw [mkB_size]; omega)]
set_option maxRecDepth 100000 in
set_option maxHeartbeats 4000000 in
theorem narrowed1_any (bs : By) (na oa : Option Addr) (nc oc ol c W ab wb : Nat) (NX : List Nat) (w : World) (ho : ol ≤ 256) (hn : NX.length ≤ 16777216) (hat : ∀ s, s < ol → s * W + c < NX.length) (hv : ∀ t, t < NX.length → gN NX t < 256) (ha : w.heap[ab]? = some (.cells #[.string ⟨bs.toArray⟩, .slice na NX.length nc, .slice oa ol oc] 24 (0, 0))) (hw : w.cell? ⟨wb, 0, none⟩ = some (.int .i64 (W : Int))) (hwl : wb < w.heap.size) (hnx : NAt w na NX) :
    Calls Tryz.prog 60 #[.int .i64 (c : Nat), .pointer (some ⟨ab, 0, none⟩), .pointer (some ⟨wb, 0, none⟩)] w fun e w' => e = .returned (.agg (mkB (ldB NX W c ol))) ∧ Below w.heap.size w w' := by
  obtain ⟨hzv, hsz⟩ := zero_of_info Tryz.info169
  rw [← ldB_zero NX W c] at hzv
  obtain ⟨z, hz⟩ : ∃ z, z = mkB (ldB NX W c 0) := ⟨_, rfl⟩
  rw [← hz] at hzv
  have HZS : Hid (z.size = 256) := by unfold Hid; rw [hz, mkB_size]
  have HSZ := hide hsz
  have HZ := hide hz
  have hab := lt_of_block ha
  obtain ⟨w2, hw2, X2, B1, B2⟩ : ∃ w2, w2 = (w.alloc (.cells z 117)).alloc (.cells z 117) ∧ Below w.heap.size w w2 ∧ w2.heap[w.heap.size]? = some (.cells z 117 (0, 0)) ∧ w2.heap[w.heap.size + 1]? = some (.cells z 117 (0, 0)) := by
    have B1 := heap_alloc_new w (.cells z 117)
    have s1 : (w.alloc (.cells z 117)).heap.size = w.heap.size + 1 := by simp
    have hb1 : Below w.heap.size w (w.alloc (.cells z 117)) := al (Below.refl _ _) _
    generalize w.alloc (.cells z 117) = wa at *
    have B2 := heap_alloc_new wa (.cells z 117)
    have Y2 : Below wa.heap.size wa (wa.alloc (.cells z 117)) := al (Below.refl _ _) _
    rw [s1] at B2
    exact ⟨_, rfl, bt hb1 Y2 (Nat.le_refl _), (Y2.block _ (lt_of_block B1)).trans B1, B2⟩
  have HX2 := hide X2
  have HB1 := hide B1
  have B0 : Hid (w2.heap[w.heap.size + 1]? = some (.cells (mkB (ldB NX W c 0)) 117 (0, 0))) := by unfold Hid; rw [← hz]; exact B2
  have HC : Hid (∀ V, Below w.heap.size w V → V.cell? ⟨ab, 1, none⟩ = some (.slice na NX.length nc) ∧ V.cell? ⟨ab, 2, none⟩ = some (.slice oa ol oc) ∧ V.cell? ⟨wb, 0, none⟩ = some (.int .i64 (W : Int)) ∧ NAt V na NX) := fun V x => by
    have Bv := (x.block ab hab).trans ha
    exact ⟨by rw [cell_of_row _ _ _ _ _ _ Bv]; rfl, by rw [cell_of_row _ _ _ _ _ _ Bv]; rfl, (x.cell (p := ⟨wb, 0, none⟩) hwl).trans hw, hnx.below x⟩
  have HAT := hide hat
  have HV := hide hv
  obtain ⟨_, e2, _, _⟩ := HC.out w2 X2
  clear hz hsz X2 B1 B2 ha hw hnx hat hv
  go_enter Tryz.func60, Tryz.ntmps60
  go_upto_region 2 with fail
  rw [← hw2]
  clear hw2
  go_wp2
  go_loopg [10] (ol + 1) (fun g x wr => ∃ s : Nat, x = .int .i64 (s : Nat) ∧ Hid (wr.heap[w.heap.size + 1]? = some (.cells (mkB (ldB NX W c s)) 117 (0, 0))) ∧ Hid (wr.heap[w.heap.size]? = some (.cells z 117 (0, 0))) ∧ Hid (Below w.heap.size w wr) ∧ s ≤ ol ∧ ol - s < g)
  case atStart => exact ⟨0, rfl, B0, HB1, HX2, by omega, by omega⟩
  case round =>
    obtain ⟨s, rfl, BL, BR, X, hsl, hg⟩ := hrel
    have HG := hide hg
    clear hg B0 HB1 HX2 e2
    obtain ⟨e1, e2, e3, kn⟩ := HC.out wr X.out
    by_cases hs : s < ol
    · have hs' : (s : Int) < (ol : Int) := by omega
      have hq := HAT.out s hs
      have hx := HV.out _ hq
      obtain ⟨nb, off, rfl, _, cn⟩ := kn.get hq
      rw [← gN_lt hq] at cn
      have hsW : s * W ≤ 16777216 := by omega
      have f1 : IntKind.i64.wrap ((s : Int) * (W : Int)) = ((s * W : Nat) : Int) := by rw [show (s : Int) * (W : Int) = ((s * W : Nat) : Int) by simp]; exact w64_n _ (by omega)
      have f3 : IntKind.i64.wrap (((s * W : Nat) : Int) + (c : Int)) = ((s * W + c : Nat) : Int) := by rw [show ((s * W : Nat) : Int) + (c : Int) = ((s * W + c : Nat) : Int) by simp]; exact w64_n _ (by omega)
      have BS := block_setCell BL.out s (.int .u8 ((gN NX (s * W + c) : Nat) : Int))
      rw [mkB_set NX W c s (by omega)] at BS
      have k6 : Kept (fun b => b = w.heap.size + 1) wr (wr.setCell ⟨w.heap.size + 1, s, none⟩ (.int .u8 ((gN NX (s * W + c) : Nat) : Int))) := (Kept.refl (fun b => b = w.heap.size + 1) wr).setCell (p := ⟨w.heap.size + 1, s, none⟩) rfl _
      have BR6 := hide ((k6.block _ (lt_of_block BR.out) (by omega)).trans BR.out)
      have X6 := hide (X.out.trans (k6.below X.out.size (fun b hb => by omega)))
      have BL6 := hide BS
      have hcl : wr.cell? ⟨w.heap.size + 1, s, none⟩ = some (.int .u8 ((if s < s then gN NX (s * W + c) else 0 : Nat) : Int)) := by rw [cell_of_row _ _ _ _ _ _ BL.out]; exact mkB_get _ _ _ _ _ (by omega)
      obtain ⟨vz, hcl⟩ : ∃ v, wr.cell? ⟨w.heap.size + 1, s, none⟩ = some v := ⟨_, hcl⟩
      have hfz := frozen_of_row _ _ s _ _ BL.out
      clear BS k6
      generalize gN NX (s * W + c) = y at *
      generalize hm : s * W = m at *
      have hlt : (m : Int) + (c : Int) < (NX.length : Int) := by omega
      have hlt2 : ((m : Int) + (c : Int)).toNat = m + c := by omega
      have hlz : (0 : Int) ≤ (m : Int) + (c : Int) := by omega
      have u8w : IntKind.u8.wrap (y : Int) = (y : Int) := by simp [IntKind.wrap, IntKind.bits, IntKind.signed]; omega
      have s256 : (s : Int) < 256 := by omega
      clear hm
      go_wp2
      go_roundg (ol - (s + 1) + 1)
      case measure => have := HG.out; omega
      case rel => exact ⟨s + 1, by first | rfl | go_num | (congr 1; omega), BL6, BR6, X6, by omega, by omega⟩
    · have hs' : ¬ (s : Int) < (ol : Int) := by omega
      obtain rfl : s = ol := by omega
      have HI : Hid ((Tryz.prog.info? 117).map (·.size) = some (mkB (ldB NX W c s)).size) := by unfold Hid; rw [HSZ.out, mkB_size]
      have HZ2 : Hid (z.size = (mkB (ldB NX W c s)).size) := by unfold Hid; rw [HZS.out, mkB_size]
      have HAL := hide (mkB_all (ldB NX W c s))
      have HBN := hide (setRow_heap wr w.heap.size z (mkB (ldB NX W c s)) 117 (0, 0) BR.out)
      have HXN := hide (below_setRow X.out (Nat.le_refl _) (mkB (ldB NX W c s)))
      obtain ⟨m, hm⟩ : ∃ m, Hid (m = mkB (ldB NX W c s)) := ⟨_, rfl⟩
      rw [← hm.out] at HI HZ2 HAL HBN HXN BL
      clear hzv
      go_wp2_with (first
        | (refine wpList_load_row rfl 117 (.tmp 5) rfl (w.heap.size + 1) rfl 117 m (0, 0) _ BL.out Tryz.underlying117 rfl HI.out ?_)
        | (refine wpList_store_row rfl 117 (.tmp 4) (.tmp 27) rfl w.heap.size m rfl rfl 117 z BR.out HI.out HZ2.out HAL.out ?_))
      refine bodyPost_ret (v := .agg m) (results_cell_row rfl _ _ w.heap.size 117 m (0, 0) _ rfl HBN.out Tryz.underlying117 rfl HI.out) rfl ?_
      exact ⟨by rw [hm.out], HXN.out⟩
end Go.Proofs.YtdgoilkgplnhfabGreat
