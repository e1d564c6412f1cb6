/-
  What stands while an automaton's states are met. Condition: the automaton may be.
-/
import Derived.Test.YtdgoilkgplnhfabGreatB06
namespace Go.Proofs.YtdgoilkgplnhfabGreat
open Go.RowKit Go.Lib Go.Maps
def dfA (bs : By) (NX OU : List Nat) : DF := ⟨OU.length, NX.length / OU.length, fun b => (bs.getD b 0).toNat, fun s c => gN NX (s * (NX.length / OU.length) + c), fun s => ((gN OU s : Nat) : Int)⟩
structure MayA (bs : By) (NX OU : List Nat) : Prop where
  bl : bs.length = 256
  n0 : 0 < OU.length
  n1 : OU.length ≤ 65536
  wl : NX.length = OU.length * (NX.length / OU.length)
  bw : ∀ b, b < 256 → (bs.getD b 0).toNat < NX.length / OU.length
  w1 : NX.length / OU.length ≤ 256
  nl : ∀ x ∈ NX, x < OU.length
  lb : ∀ x ∈ OU, x ≤ 65535
section
variable {bs : By} {NX OU : List Nat}
theorem MayA.at (h : MayA bs NX OU) {s c : Nat} (hs : s < OU.length) (hc : c < NX.length / OU.length) : s * (NX.length / OU.length) + c < NX.length := by
  have := at_lt hs hc
  rw [← h.wl] at this
  exact this
theorem MayA.ok (h : MayA bs NX OU) : (dfA bs NX OU).Ok :=
  ⟨h.n0, Nat.lt_of_le_of_lt (Nat.zero_le _) (h.bw 0 (by decide)), h.bw, fun s hs c hc => by
    have hq := h.at hs hc
    show gN NX _ < OU.length
    rw [gN_lt hq]
    exact h.nl _ (List.getElem_mem hq)⟩
theorem MayA.nxl (h : MayA bs NX OU) : NX.length ≤ 16777216 := by
  have h1 := Nat.mul_le_mul h.n1 h.w1
  rw [← h.wl] at h1
  omega
end
structure RcM (bs : By) (NX OU : List Nat) (base : Nat) (w0 : World) (cv fv nv mv : Value) (col fst : List Nat) (sv xv ov : Value) (St X O : List Nat) (i j : Nat) (w : World) : Prop where
  ex : ∃ (Nm : List Nat) (Mt : List Bool), Rws w base [(cv, col), (fv, fst), (nv, Nm), (sv, St), (xv, X), (ov, O)] ∧ OwnB w base mv Mt ∧ (Nm.length = OU.length ∧ Mt.length = OU.length ∧ (∀ a, a < St.length → gN Nm (gN St a) = a) ∧ ∀ x, x < OU.length → (Mt.getD x false = true ↔ ∃ a, a < St.length ∧ gN St a = x))
  rc : RcS (dfA bs NX OU) fst St X i j
  out : O = (St.take i).map (gN OU)
  bel : Below base w0 w
  fl : fst.length ≤ 256
section
variable {bs : By} {NX OU : List Nat} {base : Nat} {w0 w w' : World} {cv fv nv mv sv xv ov : Value} {col fst St X O : List Nat} {i j : Nat}
theorem RcM.below (h : RcM bs NX OU base w0 cv fv nv mv col fst sv xv ov St X O i j w) (hb : base ≤ w0.heap.size) (x : Below w.heap.size w w') : RcM bs NX OU base w0 cv fv nv mv col fst sv xv ov St X O i j w' := by
  obtain ⟨Nm, Mt, h1, h2, h3⟩ := h.ex
  exact ⟨⟨Nm, Mt, h1.below x, own_below h2 x, h3⟩, h.rc, h.out, h.bel.trans (x.mono (Nat.le_trans hb h.bel.size)), h.fl⟩
theorem RcM.bound (h : RcM bs NX OU base w0 cv fv nv mv col fst sv xv ov St X O i j w) (hi : i < St.length ∨ j = 0) : St.length ≤ OU.length ∧ X.length ≤ OU.length * 256 := by
  have h1 : St.length ≤ OU.length := pigeon OU.length St.length (gN St) h.rc.lt h.rc.nd
  refine ⟨h1, ?_⟩
  have h2 := h.rc.len
  have h3 := h.rc.il
  have h4 := h.rc.jl
  have h5 := h.fl
  rcases hi with hi | hi
  · have : (i + 1) * fst.length ≤ OU.length * 256 := Nat.mul_le_mul (by omega) h5
    rw [Nat.succ_mul] at this
    omega
  · have : i * fst.length ≤ OU.length * 256 := Nat.mul_le_mul (by omega) h5
    omega
structure RcP (bs : By) (NX OU : List Nat) (base : Nat) (w0 : World) (cv fv nv mv : Value) (col fst : List Nat) (sv xv ov : Value) (St X O : List Nat) (i j x v : Nat) (w : World) : Prop where
  ex : ∃ (Nm : List Nat) (Mt : List Bool), Rws w base [(cv, col), (fv, fst), (nv, Nm), (sv, St), (xv, X), (ov, O)] ∧ OwnB w base mv Mt ∧ (Nm.length = OU.length ∧ Mt.length = OU.length ∧ (∀ a, a < St.length → gN Nm (gN St a) = a) ∧ ∀ x, x < OU.length → (Mt.getD x false = true ↔ ∃ a, a < St.length ∧ gN St a = x)) ∧ gN Nm x = v
  rc : RcS (dfA bs NX OU) fst St (X ++ [v]) i (j + 1)
  out : O = (St.take i).map (gN OU)
  bel : Below base w0 w
  fl : fst.length ≤ 256
  xl : x < OU.length
theorem RcP.below {x v : Nat} (h : RcP bs NX OU base w0 cv fv nv mv col fst sv xv ov St X O i j x v w) (hb : base ≤ w0.heap.size) (y : Below w.heap.size w w') : RcP bs NX OU base w0 cv fv nv mv col fst sv xv ov St X O i j x v w' := by
  obtain ⟨Nm, Mt, h1, h2, h3⟩ := h.ex
  exact ⟨⟨Nm, Mt, h1.below y, own_below h2 y, h3⟩, h.rc, h.out, h.bel.trans (y.mono (Nat.le_trans hb h.bel.size)), h.fl, h.xl⟩
theorem RcP.app {x v : Nat} (h : RcP bs NX OU base w0 cv fv nv mv col fst sv xv ov St X O i j x v w) (hb : base ≤ w0.heap.size) {w5 : World} (x5 : Below w.heap.size w w5) {xv' : Value} (h1 : w'.ownsRow base 3 1 xv' (X.length + 1) (nCells X ++ [.int .i64 (v : Int)])) (h2 : AppAt w5 w' xv xv') :
    RcM bs NX OU base w0 cv fv nv mv col fst sv xv' ov St (X ++ [v]) O i (j + 1) w' := by
  have h5 := h.below hb x5
  obtain ⟨Nm, Mt, r1, r2, r3, _⟩ := h5.ex
  have r1' := r1.app (i := 4) (by simp) (L := X) h1 h2
  obtain ⟨F, k6, hF⟩ : ∃ F : Nat → Prop, Kept F w5 w' ∧ (∀ b, F b → xv.ownBlock = some b) := by
    rcases h2 with ⟨q, a, b, c⟩ | ⟨a, b⟩
    · exact ⟨fun b => some q = some b, kept_of_grown c, fun b hb => a.trans hb⟩
    · exact ⟨fun _ => False, Kept.of_below (below_of_grown a), fun b hb => hb.elim⟩
  have ox : w5.ownsRow base 3 1 xv X.length (nCells X) := r1.own 4 (by simp)
  refine ⟨⟨Nm, Mt, r1', own_kept r2 k6 (fun b hb hf => own_ne r2 ox (by decide) b hb (hF b hf)), r3⟩, h.rc, h.out, h5.bel.trans (k6.below (Nat.le_trans hb h5.bel.size) (fun b hf => (World.ownsRow.lt ox b (hF b hf)).1)), h.fl⟩
theorem RcM.met (h : RcM bs NX OU base w0 cv fv nv mv col fst sv xv ov St X O i j w) (hj : j < fst.length) {x : Nat} (hx : x < OU.length) (he : x = (dfA bs NX OU).step (gN St i) (gN fst j)) (hm : ∃ a, a < St.length ∧ gN St a = x) : ∃ v, v < St.length ∧ RcP bs NX OU base w0 cv fv nv mv col fst sv xv ov St X O i j x v w := by
  obtain ⟨Nm, Mt', r1, r2, r3⟩ := h.ex
  obtain ⟨a, ha, e⟩ := hm
  refine ⟨a, ha, ⟨Nm, Mt', r1, r2, r3, ?_⟩, h.rc.old hj ha (by rw [e]; exact he), h.out, h.bel, h.fl, hx⟩
  rw [← e]
  exact r3.2.2.1 a ha
theorem RcM.new {gm gn nm nn : Nat} (h : RcM bs NX OU base w0 cv fv (.slice (some ⟨gn, 0, none⟩) nn nn) (.slice (some ⟨gm, 0, none⟩) nm nm) col fst sv xv ov St X O i j w) (hb : base ≤ w0.heap.size) (hi : i < St.length) (hj : j < fst.length) {x : Nat} (hx : x < OU.length) (he : x = (dfA bs NX OU).step (gN St i) (gN fst j)) (hm : ¬ ∃ a, a < St.length ∧ gN St a = x) :
    ∃ (wB : World), wB = (w.setCell ⟨gm, x, none⟩ (.bool true)).setCell ⟨gn, x, none⟩ (.int .i64 (St.length : Int)) ∧ (∃ u, w.cell? ⟨gm, x, none⟩ = some u) ∧ w.frozen? ⟨gm, x, none⟩ = false ∧ (∃ u, (w.setCell ⟨gm, x, none⟩ (.bool true)).cell? ⟨gn, x, none⟩ = some u) ∧ (w.setCell ⟨gm, x, none⟩ (.bool true)).frozen? ⟨gn, x, none⟩ = false ∧
    wB.ownsRow base 3 1 sv St.length (nCells St) ∧ Below base w0 wB ∧
    ∀ (w5 w6 : World) (sv' : Value), Below wB.heap.size wB w5 → w6.ownsRow base 3 1 sv' (St.length + 1) (nCells St ++ [.int .i64 (x : Int)]) → AppAt w5 w6 sv sv' → RcP bs NX OU base w0 cv fv (.slice (some ⟨gn, 0, none⟩) nn nn) (.slice (some ⟨gm, 0, none⟩) nm nm) col fst sv' xv ov (St ++ [x]) X O i j x St.length w6 := by
  obtain ⟨Nm, Mt, r1, r2, r3, r4, r5, r6⟩ := h.ex
  obtain ⟨m1, m2⟩ := r2.cell (i := x) (by omega)
  obtain ⟨o1, k1⟩ := r2.store x true
  have hne : ∀ q (hq : q < 6), ∀ b, (([(cv, col), (fv, fst), (.slice (some ⟨gn, 0, none⟩) nn nn, Nm), (sv, St), (xv, X), (ov, O)] : List RN)[q]'hq).1.ownBlock = some b → ¬ b = gm := fun q hq b hb' e => by
    have oo : w.ownsRow base 3 1 _ _ (nCells _) := r1.own q hq
    exact own_ne oo r2 (by decide) b hb' (by rw [e]; rfl)
  have r1b := r1.kept k1 (fun q hq b hb' => hne q hq b hb')
  have on : OwnN (w.setCell ⟨gm, x, none⟩ (.bool true)) base (.slice (some ⟨gn, 0, none⟩) nn nn) Nm := r1b.own 2 (by simp)
  obtain ⟨n1, n2⟩ := on.slot (i := x) (by omega)
  have r1c := r1b.store (i := 2) (by simp) (g := gn) (n := nn) (cap := nn) (L := Nm) rfl x St.length
  have k2 : Kept (fun k => k = gn) (w.setCell ⟨gm, x, none⟩ (.bool true)) ((w.setCell ⟨gm, x, none⟩ (.bool true)).setCell ⟨gn, x, none⟩ (.int .i64 (St.length : Int))) := Kept.setCell (F := fun k => k = gn) (Kept.refl _ _) rfl _
  have o2 : OwnB ((w.setCell ⟨gm, x, none⟩ (.bool true)).setCell ⟨gn, x, none⟩ (.int .i64 (St.length : Int))) base (.slice (some ⟨gm, 0, none⟩) nm nm) (Mt.set x true) := own_kept o1 k2 (fun b hb' e => own_ne o1 on (by decide) b hb' (by rw [e]; rfl))
  have hgm := (World.ownsRow.lt (show w.ownsRow base 4 1 (.slice (some ⟨gm, 0, none⟩) nm nm) _ _ from r2) gm rfl).1
  have hgn := (World.ownsRow.lt (show (w.setCell ⟨gm, x, none⟩ (.bool true)).ownsRow base 3 1 (.slice (some ⟨gn, 0, none⟩) nn nn) _ (nCells _) from on) gn rfl).1
  have b2 : Below base w0 ((w.setCell ⟨gm, x, none⟩ (.bool true)).setCell ⟨gn, x, none⟩ (.int .i64 (St.length : Int))) := (h.bel.setCell hgm _).setCell hgn _
  refine ⟨_, rfl, ⟨_, m1⟩, m2, ⟨_, n1⟩, n2, r1c.own 3 (by simp), b2, fun w5 w6 sv' x5 g1 g2 => ?_⟩
  have r1d := r1c.below x5
  have r1e := r1d.app (i := 3) (by simp) (L := St) g1 g2
  obtain ⟨F, k6, hF⟩ : ∃ F : Nat → Prop, Kept F w5 w6 ∧ (∀ b, F b → sv.ownBlock = some b) := by
    rcases g2 with ⟨q, a, b, c⟩ | ⟨a, b⟩
    · exact ⟨fun b => some q = some b, kept_of_grown c, fun b hb => a.trans hb⟩
    · exact ⟨fun _ => False, Kept.of_below (below_of_grown a), fun b hb => hb.elim⟩
  have os : w5.ownsRow base 3 1 sv St.length (nCells St) := r1d.own 3 (by simp)
  have o5 := own_below o2 x5
  have hxn : ∀ a, a < St.length → gN St a ≠ x := fun a ha e => hm ⟨a, ha, e⟩
  have gl : ∀ a, a < St.length → gN (St ++ [x]) a = gN St a := fun a ha => gN_left ha
  have hls : (St ++ [x]).length = St.length + 1 := by simp
  have gs : ∀ y, gN (Nm.set x St.length) y = if y = x then St.length else gN Nm y := fun y => by
    unfold gN
    rw [List.getD_eq_getElem?_getD, List.getD_eq_getElem?_getD, List.getElem?_set]
    by_cases hy : x = y
    · subst hy; simp [show x < Nm.length by omega]
    · rw [if_neg hy, if_neg (fun e => hy e.symm)]
  have b5 := b2.trans (x5.mono (Nat.le_trans hb b2.size))
  refine ⟨⟨Nm.set x St.length, Mt.set x true, r1e, own_kept o5 k6 (fun b hb' hf => own_ne o5 os (by decide) b hb' (hF b hf)), ⟨by rw [List.length_set]; exact r3, by rw [List.length_set]; exact r4, fun a ha => ?_, fun y hy => ?_⟩, by rw [gs x, if_pos rfl]⟩, h.rc.new hi hj hx hxn he, ?_, b5.trans (k6.below (Nat.le_trans hb b5.size) (fun b hf => (World.ownsRow.lt os b (hF b hf)).1)), h.fl, hx⟩
  · by_cases h2 : a < St.length
    · rw [gl a h2, gs, if_neg (hxn a h2)]; exact r5 a h2
    · obtain rfl : a = St.length := by omega
      rw [gN_last, gs, if_pos rfl]
  · by_cases hyx : y = x
    · subst hyx
      refine ⟨fun _ => ⟨St.length, by omega, gN_last _ _⟩, fun _ => ?_⟩
      rw [List.getD_eq_getElem?_getD, List.getElem?_set]
      simp [show y < Mt.length by omega]
    · rw [show (Mt.set x true).getD y false = Mt.getD y false by rw [List.getD_eq_getElem?_getD, List.getD_eq_getElem?_getD, List.getElem?_set, if_neg (fun e => hyx e.symm)], r6 y hy]
      refine ⟨fun ⟨a, ha, e⟩ => ⟨a, by omega, by rw [gl a ha]; exact e⟩, fun ⟨a, ha, e⟩ => ?_⟩
      by_cases h2 : a < St.length
      · exact ⟨a, h2, by rw [gl a h2] at e; exact e⟩
      · obtain rfl : a = St.length := by omega
        rw [gN_last] at e; exact absurd e.symm hyx
  · rw [h.out, List.take_append_of_le_length (by omega)]
theorem RcM.row (h : RcM bs NX OU base w0 cv fv nv mv col fst sv xv ov St X O i fst.length w) (hb : base ≤ w0.heap.size) (hi : i < St.length) {w5 : World} (x5 : Below w.heap.size w w5) {ov' : Value} (h1 : w'.ownsRow base 3 1 ov' (O.length + 1) (nCells O ++ [.int .i64 ((gN OU (gN St i) : Nat) : Int)])) (h2 : w5.grownBy w' ov.ownBlock) (h3 : ∀ b, ov'.ownBlock = some b → ov.ownBlock = some b ∨ w5.heap.size ≤ b) :
    RcM bs NX OU base w0 cv fv nv mv col fst sv xv ov' St X (O ++ [gN OU (gN St i)]) (i + 1) 0 w' := by
  have h5 := h.below hb x5
  obtain ⟨Nm, Mt, r1, r2, r3⟩ := h5.ex
  have k6 := kept_of_grown h2
  have oo : w5.ownsRow base 3 1 ov O.length (nCells O) := r1.own 5 (by simp)
  have r1' := r1.upd (i := 5) (by simp) (v' := ov') (L' := O ++ [gN OU (gN St i)]) (by unfold OwnN; rw [nCells_snoc, List.length_append, List.length_singleton]; exact h1) k6 (fun b hb' => hb') h3
  refine ⟨⟨Nm, Mt, r1', own_kept r2 k6 (fun b hb' hf => own_ne r2 oo (by decide) b hb' hf), r3⟩, h.rc.row hi, ?_, h5.bel.trans (k6.below (Nat.le_trans hb h5.bel.size) (fun b hf => (World.ownsRow.lt oo b hf).1)), h.fl⟩
  rw [h.out, List.take_succ_eq_append_getElem hi, List.map_append, gN_lt hi]
  rfl
theorem RcM.start {gm gn : Nat} {Nm : List Nat} {Mt : List Bool} (hr : Rws w base [(cv, col), (fv, fst), (.slice (some ⟨gn, 0, none⟩) OU.length OU.length, Nm), (sv, [0]), (xv, []), (ov, [])]) (hmt : OwnB w base (.slice (some ⟨gm, 0, none⟩) OU.length OU.length) Mt) (h0 : 0 < OU.length) (hN : Nm = List.replicate OU.length 0) (hM : Mt = (List.replicate OU.length false).set 0 true) (hbel : Below base w0 w) (hfl : fst.length ≤ 256) :
    RcM bs NX OU base w0 cv fv (.slice (some ⟨gn, 0, none⟩) OU.length OU.length) (.slice (some ⟨gm, 0, none⟩) OU.length OU.length) col fst sv xv ov [0] [] [] 0 0 w := by
  refine ⟨⟨Nm, Mt, hr, hmt, by rw [hN]; simp, by rw [hM]; simp, fun a ha => ?_, fun x hx => ?_⟩, RcS.start h0, rfl, hbel, hfl⟩
  · have : a = 0 := by simp at ha; omega
    subst this
    rw [hN]
    simp [gN, List.getD_eq_getElem?_getD, h0]
  · rw [hM, List.getD_eq_getElem?_getD, List.getElem?_set]
    by_cases hx0 : 0 = x
    · subst hx0
      rw [if_pos rfl]
      simp [h0]
      exact rfl
    · rw [if_neg hx0]
      simp [hx]
      intro e
      exact hx0 e
end
theorem st3 {W : World} {g : Nat} {a b c : Value} {T : TypeId} (B : W.heap[g]? = some (.cells #[a, b, c] T (0, 0))) (x y z : Value) :
    W.cell? ⟨g, 0, none⟩ = some a ∧ W.frozen? ⟨g, 0, none⟩ = false ∧ (W.setCell ⟨g, 0, none⟩ x).cell? ⟨g, 1, none⟩ = some b ∧ (W.setCell ⟨g, 0, none⟩ x).frozen? ⟨g, 1, none⟩ = false ∧ ((W.setCell ⟨g, 0, none⟩ x).setCell ⟨g, 1, none⟩ y).cell? ⟨g, 2, none⟩ = some c ∧ ((W.setCell ⟨g, 0, none⟩ x).setCell ⟨g, 1, none⟩ y).frozen? ⟨g, 2, none⟩ = false ∧
    (((W.setCell ⟨g, 0, none⟩ x).setCell ⟨g, 1, none⟩ y).setCell ⟨g, 2, none⟩ z).heap[g]? = some (.cells #[x, y, z] T (0, 0)) ∧ Kept (fun i => i = g) W (((W.setCell ⟨g, 0, none⟩ x).setCell ⟨g, 1, none⟩ y).setCell ⟨g, 2, none⟩ z) := by
  have B1 : (W.setCell ⟨g, 0, none⟩ x).heap[g]? = some (.cells #[x, b, c] T (0, 0)) := block_setCell B 0 x
  have B2 : ((W.setCell ⟨g, 0, none⟩ x).setCell ⟨g, 1, none⟩ y).heap[g]? = some (.cells #[x, y, c] T (0, 0)) := block_setCell B1 1 y
  have B3 : (((W.setCell ⟨g, 0, none⟩ x).setCell ⟨g, 1, none⟩ y).setCell ⟨g, 2, none⟩ z).heap[g]? = some (.cells #[x, y, z] T (0, 0)) := block_setCell B2 2 z
  refine ⟨by rw [cell_of_row _ _ _ _ _ _ B]; rfl, frozen_of_row _ _ 0 _ _ B, by rw [cell_of_row _ _ _ _ _ _ B1]; rfl, frozen_of_row _ _ 1 _ _ B1, by rw [cell_of_row _ _ _ _ _ _ B2]; rfl, frozen_of_row _ _ 2 _ _ B2, B3, ?_⟩
  exact Kept.setCell (F := fun i => i = g) (Kept.setCell (F := fun i => i = g) (Kept.setCell (F := fun i => i = g) (Kept.refl _ _) rfl _) rfl _) rfl _
end Go.Proofs.YtdgoilkgplnhfabGreat
namespace Go.Proofs.YtdgoilkgplnhfabGreat
def gS {S : Type} (z : S) (St : List S) (a : Nat) : S := St.getD a z
section
variable {S : Type} {z : S}
theorem gS_lt {St : List S} {a : Nat} (h : a < St.length) : gS z St a = St[a] := by unfold gS; simp [List.getD_eq_getElem?_getD, h]
theorem gS_left {St : List S} {x : S} {a : Nat} (h : a < St.length) : gS z (St ++ [x]) a = gS z St a := by unfold gS; simp [List.getD_eq_getElem?_getD, List.getElem?_append_left h]
theorem gS_last (St : List S) (x : S) : gS z (St ++ [x]) St.length = x := by unfold gS; simp [List.getD_eq_getElem?_getD]
end
structure ExS {S : Type} (z : S) (fo : S → Nat → S) (M : Nat) (St : List S) (NX : List Nat) (i j : Nat) : Prop where
  s0 : 0 < St.length ∧ gS z St 0 = z
  nd : ∀ a, a < St.length → ∀ b, b < St.length → gS z St a = gS z St b → a = b
  rch : ∀ a, a < St.length → ∃ u : List Nat, (∀ c ∈ u, c < M) ∧ u.foldl fo z = gS z St a
  len : NX.length = i * M + j
  jl : j ≤ M
  il : i ≤ St.length
  nxt : ∀ q, q < NX.length → gN NX q < St.length ∧ gS z St (gN NX q) = fo (gS z St (q / M)) (q % M)
section
variable {S : Type} {z : S} {fo : S → Nat → S} {M : Nat} {St : List S} {NX : List Nat} {i j : Nat}
theorem ExS.start : ExS z fo M [z] [] 0 0 := by
  refine ⟨⟨by simp, rfl⟩, fun a ha b hb _ => by simp at ha hb; omega, fun a ha => ⟨[], fun c hc => (List.not_mem_nil hc).elim, ?_⟩, by simp, by omega, by omega, fun q hq => by simp at hq⟩
  have : a = 0 := by simp at ha; omega
  subst this
  rfl
theorem ExS.old (h : ExS z fo M St NX i j) (hj : j < M) {v : Nat} (hv : v < St.length) (he : gS z St v = fo (gS z St i) j) : ExS z fo M St (NX ++ [v]) i (j + 1) := by
  have hl : (NX ++ [v]).length = NX.length + 1 := by simp
  have hd := div_at (i := i) hj
  rw [← h.len] at hd
  refine ⟨h.s0, h.nd, h.rch, by rw [hl, h.len]; omega, hj, h.il, fun q hq => ?_⟩
  by_cases h2 : q < NX.length
  · rw [gN_left h2]; exact h.nxt q h2
  · obtain rfl : q = NX.length := by omega
    rw [gN_last, hd.1, hd.2]; exact ⟨hv, he⟩
theorem ExS.add (h : ExS z fo M St NX i j) (hi : i < St.length) (hj : j < M) {x : S} (hne : ∀ a, a < St.length → gS z St a ≠ x) (he : x = fo (gS z St i) j) : ExS z fo M (St ++ [x]) NX i j := by
  have hls : (St ++ [x]).length = St.length + 1 := by simp
  have gl : ∀ a, a < St.length → gS z (St ++ [x]) a = gS z St a := fun a ha => gS_left ha
  have hrow : ∀ q, q < NX.length → q / M < St.length := fun q hq => by
    have : q / M ≤ i := by
      have h1 : q ≤ i * M + j := by have := h.len; omega
      have h2 := Nat.div_le_div_right (c := M) h1
      rw [(div_at (i := i) hj).1] at h2
      exact h2
    omega
  refine ⟨⟨by omega, by rw [gl 0 h.s0.1]; exact h.s0.2⟩, fun a ha b hb e => ?_, fun a ha => ?_, h.len, h.jl, by have := h.il; omega, fun q hq => ?_⟩
  · by_cases h1 : a < St.length
    · by_cases h2 : b < St.length
      · rw [gl a h1, gl b h2] at e; exact h.nd a h1 b h2 e
      · obtain rfl : b = St.length := by omega
        rw [gl a h1, gS_last] at e; exact absurd e (hne a h1)
    · obtain rfl : a = St.length := by omega
      by_cases h2 : b < St.length
      · rw [gl b h2, gS_last] at e; exact absurd e.symm (hne b h2)
      · omega
  · by_cases h1 : a < St.length
    · rw [gl a h1]; exact h.rch a h1
    · obtain rfl : a = St.length := by omega
      obtain ⟨u, h2, h3⟩ := h.rch i hi
      refine ⟨u ++ [j], fun c hc => ?_, ?_⟩
      · rcases List.mem_append.1 hc with hc | hc
        · exact h2 c hc
        · rw [List.mem_singleton.1 hc]; exact hj
      · rw [List.foldl_append, h3, gS_last, he]; rfl
  · obtain ⟨k1, k2⟩ := h.nxt q hq
    exact ⟨by omega, by rw [gl _ k1, gl _ (hrow q hq)]; exact k2⟩
theorem ExS.new (h : ExS z fo M St NX i j) (hi : i < St.length) (hj : j < M) {x : S} (hne : ∀ a, a < St.length → gS z St a ≠ x) (he : x = fo (gS z St i) j) : ExS z fo M (St ++ [x]) (NX ++ [St.length]) i (j + 1) :=
  (h.add hi hj hne he).old hj (by simp) (by rw [gS_last, gS_left hi, he])
theorem ExS.row (h : ExS z fo M St NX i j) (hi : i < St.length) (hj : ¬ j < M) : ExS z fo M St NX (i + 1) 0 := by
  have : j = M := by have := h.jl; omega
  refine ⟨h.s0, h.nd, h.rch, by rw [h.len, Nat.succ_mul, this]; omega, by omega, hi, h.nxt⟩
end
structure ExD {S : Type} (z : S) (fo : S → Nat → S) (M : Nat) (St : List S) (NX : List Nat) : Prop where
  s0 : 0 < St.length ∧ gS z St 0 = z
  nd : ∀ a, a < St.length → ∀ b, b < St.length → gS z St a = gS z St b → a = b
  rch : ∀ a, a < St.length → ∃ u : List Nat, (∀ c ∈ u, c < M) ∧ u.foldl fo z = gS z St a
  len : NX.length = St.length * M
  nxt : ∀ s, s < St.length → ∀ c, c < M → gN NX (s * M + c) < St.length ∧ gS z St (gN NX (s * M + c)) = fo (gS z St s) c
def ExMany {S : Type} (z : S) (fo : S → Nat → S) (M : Nat) : Prop := ∃ St : List S, St.length = 257 ∧ (∀ a, a < St.length → ∀ b, b < St.length → gS z St a = gS z St b → a = b) ∧ ∀ a, a < St.length → ∃ u : List Nat, (∀ c ∈ u, c < M) ∧ u.foldl fo z = gS z St a
section
variable {S : Type} {z : S} {fo : S → Nat → S} {M : Nat} {St : List S} {NX : List Nat} {i j : Nat}
theorem ExS.done (h : ExS z fo M St NX i 0) (hi : ¬ i < St.length) : ExD z fo M St NX := by
  have e : i = St.length := by have := h.il; omega
  refine ⟨h.s0, h.nd, h.rch, by rw [h.len, e]; omega, fun s hs c hc => ?_⟩
  have hq : s * M + c < NX.length := by
    rw [h.len, e]
    have := at_lt hs hc
    omega
  have := h.nxt _ hq
  rw [(div_at (i := s) hc).1, (div_at (i := s) hc).2] at this
  exact this
theorem ExS.many (h : ExS z fo M St NX i j) (hl : St.length = 257) : ExMany z fo M := ⟨St, hl, h.nd, h.rch⟩
end
section
variable {S : Type} {z : S} {fo : S → Nat → S} {M : Nat} {St : List S} {NX OU : List Nat} {bs : By}
theorem ExD.run (h : ExD z fo M St NX) (hM : 0 < M) (ho : OU.length = St.length) (hb : ∀ b, b < 256 → (bs.getD b 0).toNat < M) : ∀ {t : List Nat} {s : Nat}, s < St.length → Txt t → (dfA bs NX OU).run s t < St.length ∧ gS z St ((dfA bs NX OU).run s t) = t.foldl (fun x b => fo x (bs.getD b 0).toNat) (gS z St s)
  | [], s, hs, _ => ⟨hs, rfl⟩
  | b :: t, s, hs, ht => by
    have hW : NX.length / OU.length = M := by rw [h.len, ho, Nat.mul_comm]; exact Nat.mul_div_cancel _ h.s0.1
    obtain ⟨k1, k2⟩ := h.nxt s hs _ (hb b ht.tail.1)
    have e : (dfA bs NX OU).step s b = gN NX (s * M + (bs.getD b 0).toNat) := by
      show gN NX (s * (NX.length / OU.length) + (bs.getD b 0).toNat) = _
      rw [hW]
    have := ExD.run h hM ho hb (t := t) (s := (dfA bs NX OU).step s b) (by rw [e]; exact k1) ht.tail.2
    rw [DF.run_cons]
    refine ⟨this.1, ?_⟩
    rw [this.2, e, k2]
    rfl
theorem ExD.may (h : ExD z fo M St NX) (hM : 0 < M) (hM2 : M ≤ 256) (ho : OU.length = St.length) (hn : St.length ≤ 65536) (hbl : bs.length = 256) (hb : ∀ b, b < 256 → (bs.getD b 0).toNat < M) (hlb : ∀ x ∈ OU, x ≤ 65535) : MayA bs NX OU := by
  have hW : NX.length / OU.length = M := by rw [h.len, ho, Nat.mul_comm]; exact Nat.mul_div_cancel _ h.s0.1
  refine ⟨hbl, by rw [ho]; exact h.s0.1, by rw [ho]; exact hn, by rw [hW, ho, h.len], by rw [hW]; exact hb, by rw [hW]; exact hM2, fun x hx => ?_, hlb⟩
  obtain ⟨q, hq, rfl⟩ := List.getElem_of_mem hx
  have h0 : q / M < St.length := by
    have := h.len
    exact Nat.div_lt_of_lt_mul (by rw [Nat.mul_comm]; omega)
  have := (h.nxt (q / M) h0 (q % M) (Nat.mod_lt _ hM)).1
  rw [Nat.mul_comm, Nat.div_add_mod, gN_lt hq] at this
  rw [ho]
  exact this
end
end Go.Proofs.YtdgoilkgplnhfabGreat
namespace Go.Proofs.YtdgoilkgplnhfabGreat
open Go.RowKit Go.Lib
def ZAt (w : World) (ao : Option Addr) (L : List Int) : Prop := L = [] ∨ ∃ b off, ao = some ⟨b, off, none⟩ ∧ b < w.heap.size ∧ ∀ i (h : i < L.length), w.cell? ⟨b, off + i, none⟩ = some (.int .i64 L[i])
theorem ZAt.below {w w' : World} {ao : Option Addr} {L : List Int} (h : ZAt w ao L) (hb : Below w.heap.size w w') : ZAt w' ao L := by
  rcases h with h | ⟨b, off, h1, h2, h3⟩
  · exact .inl h
  · exact .inr ⟨b, off, h1, Nat.lt_of_lt_of_le h2 hb.size, fun i hi => (hb.cell (p := ⟨b, off + i, none⟩) h2).trans (h3 i hi)⟩
theorem ZAt.get {w : World} {ao : Option Addr} {L : List Int} (h : ZAt w ao L) {i : Nat} (hi : i < L.length) : ∃ b off, ao = some ⟨b, off, none⟩ ∧ w.cell? ⟨b, off + i, none⟩ = some (.int .i64 L[i]) := by
  rcases h with h | ⟨b, off, h1, h2, h3⟩
  · rw [h] at hi; cases hi
  · exact ⟨b, off, h1, h3 i hi⟩
set_option maxRecDepth 100000 in
set_option maxHeartbeats 2000000 in
theorem indexZ_any (fv : Value) (cl : Nat) (caps : List Value) (hfv : fv = .func (.func cl) #[] caps.toArray) (he : ∀ args w, (callFunc cl args).run Tryz.prog w = .ok (.enter cl args) w) (p : Int → Bool) (ao : Option Addr) (cap : Nat) (L : List Int) (w : World) (hl : L.length ≤ 140737488351232) (hat : ZAt w ao L) (hc : ∀ z ∈ L, ∀ W, Below w.heap.size w W → Calls Tryz.prog cl (.int .i64 z :: caps).toArray W fun e w' => e = .returned (.bool (p z)) ∧ Below W.heap.size W w') :
    Calls Tryz.prog 51 #[.slice ao L.length cap, fv] w fun e w' => (∃ i : Int, e = .returned (.int .i64 i) ∧ (0 ≤ i ↔ ∃ x, x ∈ L ∧ p x = true) ∧ -1 ≤ i) ∧ Below w.heap.size w w' := by
  subst hfv
  have HAT := hide hat
  have HC := hide hc
  clear hat hc
  go_enter Tryz.func51, Tryz.ntmps51
  go_wp2
  go_loopg [8] (L.length + 1) (fun g x wr => ∃ k : Nat, x = .int .i64 (k : Nat) ∧ k ≤ L.length ∧ Hid ((L.take k).any p = false) ∧ Hid (Below w.heap.size w wr) ∧ L.length - k < g)
  case atStart => exact ⟨0, rfl, by omega, by simp [Hid], hide (Below.refl _ _), by omega⟩
  case round =>
    obtain ⟨k, rfl, hk1, HA, XB, hg⟩ := hrel
    have HG := hide hg
    clear hg
    by_cases hk : k < L.length
    · have hk' : (k : Int) < (L.length : Int) := by omega
      obtain ⟨b, off, rfl, c0⟩ := (HAT.out.below XB.out).get hk
      obtain ⟨z, hz⟩ : ∃ z, L[k] = z := ⟨_, rfl⟩
      have H1 := hide (HC.out L[k] (List.getElem_mem hk) wr XB.out)
      have HZ : Hid ((L.take (k + 1)).any p = p z) := by unfold Hid; rw [List.take_succ_eq_append_getElem hk, List.any_append, HA.out, hz]; simp
      have HZ2 : Hid (z ∈ L) := by unfold Hid; rw [← hz]; exact List.getElem_mem hk
      rw [hz] at c0 H1
      clear hz
      go_wp2_with (fail)
      refine H1.out.mono ?_
      rintro e w3 ⟨rfl, x3⟩
      have X3 := hide (bt XB.out x3 (Nat.le_refl _))
      clear H1 x3 c0
      cases hp : p z with
      | true =>
        have HP := hide hp
        go_wp2
        go_ret
        exact ⟨⟨_, rfl, ⟨fun _ => ⟨z, HZ2.out, HP.out⟩, fun _ => by omega⟩, by omega⟩, X3.out⟩
      | false =>
        have HZ3 : Hid ((L.take (k + 1)).any p = false) := HZ.out.trans hp
        go_wp2
        go_roundg (L.length - (k + 1) + 1)
        case measure => have := HG.out; omega
        case rel => exact ⟨k + 1, by first | rfl | go_num | (congr 1; omega), by omega, HZ3, X3, by omega⟩
    · have hk' : ¬ (k : Int) < (L.length : Int) := by omega
      obtain rfl : k = L.length := by omega
      have HE : Hid (L.any p = false) := by have := HA.out; rwa [List.take_length] at this
      go_wp2
      go_ret
      exact ⟨⟨-1, rfl, ⟨fun h => by omega, fun h => by obtain ⟨x, h1, h2⟩ := h; have h3 := List.any_eq_true.2 ⟨x, h1, h2⟩; rw [HE.out] at h3; cases h3⟩, by omega⟩, XB.out⟩
set_option maxRecDepth 100000 in
theorem containsZ_any (fv : Value) (cl : Nat) (caps : List Value) (hfv : fv = .func (.func cl) #[] caps.toArray) (he : ∀ args w, (callFunc cl args).run Tryz.prog w = .ok (.enter cl args) w) (p : Int → Bool) (ao : Option Addr) (cap : Nat) (L : List Int) (w : World) (hl : L.length ≤ 140737488351232) (hat : ZAt w ao L) (hc : ∀ z ∈ L, ∀ W, Below w.heap.size w W → Calls Tryz.prog cl (.int .i64 z :: caps).toArray W fun e w' => e = .returned (.bool (p z)) ∧ Below W.heap.size W w') :
    Calls Tryz.prog 34 #[.slice ao L.length cap, fv] w fun e w' => e = .returned (.bool (L.any p)) ∧ Below w.heap.size w w' := by
  have H1 := hide (indexZ_any fv cl caps hfv he p ao cap L w hl hat hc)
  clear hc hat hfv he
  go_enter Tryz.func34, Tryz.ntmps34
  go_wp2_with (fail)
  refine H1.out.mono ?_
  rintro e w2 ⟨⟨i, rfl, hi, _⟩, x2⟩
  have X2 := hide x2
  clear H1 x2
  by_cases h0 : 0 ≤ i
  · have HE : Hid (L.any p = true) := List.any_eq_true.2 (hi.1 h0)
    clear hi
    go_wp2
    go_ret
    exact ⟨by rw [HE.out]; first | rfl | simp_all, X2.out⟩
  · have HE : Hid (L.any p = false) := by
      unfold Hid
      cases hx : L.any p with
      | false => rfl
      | true => exact absurd (hi.2 (List.any_eq_true.1 hx)) h0
    clear hi
    go_wp2
    go_ret
    exact ⟨by rw [HE.out]; first | rfl | simp_all, X2.out⟩
def noneB (n : Nat) (z : Int) : Bool := decide (z < 0 ∨ (n : Int) ≤ z)
set_option maxRecDepth 100000 in
theorem mayBe1_any (oa : Option Addr) (n oc xb : Nat) (z : Int) (w : World) (hc : w.cell? ⟨xb, 2, none⟩ = some (.slice oa n oc)) :
    Calls Tryz.prog 31 #[.int .i64 z, .pointer (some ⟨xb, 0, none⟩)] w fun e w' => e = .returned (.bool (noneB n z)) ∧ Below w.heap.size w w' := by
  by_cases h1 : z < 0
  · have HE : Hid (noneB n z = true) := decide_eq_true (.inl h1)
    go_enter Tryz.func31, Tryz.ntmps31
    go_wp2
    go_ret
    exact ⟨by rw [HE.out]; first | rfl | simp_all, Below.refl _ _⟩
  · by_cases h2 : (n : Int) ≤ z
    · have HE : Hid (noneB n z = true) := decide_eq_true (.inr h2)
      go_enter Tryz.func31, Tryz.ntmps31
      go_wp2
      go_ret
      exact ⟨by rw [HE.out]; first | rfl | simp_all, Below.refl _ _⟩
    · have HE : Hid (noneB n z = false) := decide_eq_false (fun h => by omega)
      go_enter Tryz.func31, Tryz.ntmps31
      go_wp2
      go_ret
      exact ⟨by rw [HE.out]; first | rfl | simp_all, Below.refl _ _⟩
def nlB (z : Int) : Bool := !decide (Lab z)
set_option maxRecDepth 100000 in
theorem mayBe2_any (z : Int) (w : World) : Calls Tryz.prog 32 #[.int .i64 z] w fun e w' => e = .returned (.bool (nlB z)) ∧ Below w.heap.size w w' := by
  have H1 := hide (isLabel_any z w)
  have HE : Hid (nlB z = !decide (Lab z)) := rfl
  generalize decide (Lab z) = b at *
  generalize nlB z = c at *
  go_enter Tryz.func32, Tryz.ntmps32
  go_wp2_with (fail)
  refine H1.out.mono ?_
  rintro e w2 ⟨rfl, hw⟩
  have hw := hw.symm
  subst hw
  go_wp2
  go_ret
  exact ⟨by rw [HE.out]; rfl, Below.refl _ _⟩
def mxL (L : List Nat) : Nat := L.foldl max 0
theorem mxL_snoc (L : List Nat) (x : Nat) : mxL (L ++ [x]) = max (mxL L) x := by simp [mxL, List.foldl_append]
set_option maxRecDepth 100000 in
set_option maxHeartbeats 2000000 in
theorem max_any (xb cap : Nat) (L : List Nat) (w : World) (h0 : 0 < L.length) (hl : L.length ≤ 140737488351232) (hc : ∀ i (h : i < L.length), w.cell? ⟨xb, i, none⟩ = some (.int .u8 (L[i] : Int))) :
    Calls Tryz.prog 30 #[.slice (some ⟨xb, 0, none⟩) L.length cap] w fun e w' => e = .returned (.int .u8 ((mxL L : Nat) : Int)) ∧ w' = w := by
  have c0 := hc 0 h0
  have HC := hide hc
  have h0' : (0 : Int) < (L.length : Int) := by omega
  have h1' : ¬ (L.length : Int) < 1 := by omega
  have HM0 : Hid (mxL (L.take 1) = L[0]) := by
    unfold Hid
    rw [List.take_succ_eq_append_getElem h0, List.take_zero, List.nil_append]
    simp [mxL]
  clear hc
  go_enter Tryz.func30, Tryz.ntmps30
  go_wp2
  go_loopg [3, 4] (L.length + 1) (fun g m x wr => ∃ k : Nat, x = .int .i64 (k : Nat) ∧ k ≤ L.length ∧ m = .int .u8 ((mxL (L.take k) : Nat) : Int) ∧ wr = w ∧ L.length - k < g)
  case atStart => exact ⟨1, rfl, by omega, by rw [HM0.out], rfl, by omega⟩
  case round =>
    obtain ⟨k, rfl, hk1, rfl, rfl, hg⟩ := hrel
    have HG := hide hg
    clear hg c0
    by_cases hk : k < L.length
    · have hk' : (k : Int) < (L.length : Int) := by omega
      have c1 := HC.out k hk
      have HM : Hid (mxL (L.take (k + 1)) = max (mxL (L.take k)) L[k]) := by unfold Hid; rw [List.take_succ_eq_append_getElem hk, mxL_snoc]
      generalize L[k] = y at *
      generalize mxL (L.take k) = m at *
      go_wp2
      all_goals
        go_roundg (L.length - (k + 1) + 1)
        case measure => have := HG.out; omega
        case rel => exact ⟨k + 1, by first | rfl | go_num | (congr 1; omega), by omega, by rw [HM.out]; first | rfl | (congr 1; omega), by first | rfl | trivial, by omega⟩
    · have hk' : ¬ (k : Int) < (L.length : Int) := by omega
      obtain rfl : k = L.length := by omega
      have HE : Hid (mxL (L.take L.length) = mxL L) := by unfold Hid; rw [List.take_length]
      rw [HE.out]
      go_wp2
      go_ret
      exact ⟨rfl, rfl⟩
end Go.Proofs.YtdgoilkgplnhfabGreat
