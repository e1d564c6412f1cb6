/-
  read by its contract: its layers. Condition: refs of the arena.
-/
import Derived.Test.YtnddhkhmbjeefaaP27
namespace Go.Proofs.Ytnddhkhmbjeefaa
open Go.RowKit Go.Lib Go.Maps

/-- What the loop within keeps: k rows so far. wo: the world when the level began. -/
structure Rd3 (S : List Int) (N : List Nd) (l : Nat) (Q : List Int) (wo wr : World) (nx bb : Nat) (k : Nat) (BL : List RD) (P : Nat → Prop) : Prop where
  rf : RfAt wr nx (adds [0, 1] ((Q.take k).flatMap (kidsN S N l))) P
  ty : RfTy wr P
  new : ∀ z, P z → wo.heap.size ≤ z
  bl : BlB wr bb Q.length BL
  hb : wo.heap.size ≤ bb
  len : BL.length = k
  row : ∀ i (h : i < BL.length), RwB wr (BL[i]).b (BL[i]).r ∧ RdF BL[i] ∧ ∃ h : Nat → Int, (BL[i]).r = rlN h (S.getD l 0).toNat ∧ ∀ c, c < (S.getD l 0).toNat → 0 ≤ h c ∧ (adds [0, 1] ((Q.take k).flatMap (kidsN S N l)))[(h c).toNat]? = some (kidR S N l (Q.getD i 0) c)
  bel : Below wo.heap.size wo wr
section
variable {S : List Int} {M : Int} {N : List Nd} {l : Nat} {Q : List Int} {wo wr w2 : World} {nx bb k : Nat} {BL : List RD} {P P2 : Nat → Prop}
theorem Rd3.below (h : Rd3 S N l Q wo wr nx bb k BL P) (x : Below wr.heap.size wr w2) : Rd3 S N l Q wo w2 nx bb k BL P :=
  ⟨h.rf.below x, h.ty.kept (F := fun _ => False) (Kept.of_below x) h.rf.lt (fun _ _ h => h), h.new, h.bl.below x, h.hb, h.len, fun i hi => ⟨(h.row i hi).1.below x, (h.row i hi).2⟩, bt h.bel x (Nat.le_refl _)⟩
theorem flat_take {f : Int → List Int} (hk : k < Q.length) : (Q.take (k + 1)).flatMap f = (Q.take k).flatMap f ++ f Q[k] := by
  rw [List.take_succ_eq_append_getElem hk, List.flatMap_append]
  simp
/-- One row more. -/
theorem Rd3.step (h : Rd3 S N l Q wo wr nx bb k BL P) (hk : k < Q.length) {s g c : Nat} (hs : s = (S.getD l 0).toNat) (hs0 : 0 < s) (hs1 : s ≤ 256) (hfew : (adds [0, 1] ((Q.take (k + 1)).flatMap (kidsN S N l))).length < 100000) {f : Nat → Int} (hr : RwB w2 g (rlN f s)) (hc1 : (rlN f s).length ≤ c) (hc2 : c ≤ maxLen) (r2 : RfAt w2 nx (adds (adds [0, 1] ((Q.take k).flatMap (kidsN S N l))) (kidsN S N l Q[k])) P2) (k2 : Kept P wr w2) (n2 : ∀ z, P2 z → P z ∨ wr.heap.size ≤ z) (hf : ∀ j, j < s → 0 ≤ f j ∧ (adds (adds [0, 1] ((Q.take k).flatMap (kidsN S N l))) (kidsN S N l Q[k]))[(f j).toNat]? = some (kidR S N l Q[k] j)) :
    ∃ P', Rd3 S N l Q wo (w2.setCell ⟨bb, k, none⟩ (.slice (some ⟨g, 0, none⟩) (rlN f s).length c)) nx bb (k + 1) (BL ++ [⟨g, c, rlN f s⟩]) P' := by
  subst hs
  obtain ⟨P', r2', sub, ty2⟩ := r2.exact
  have eT : adds [0, 1] ((Q.take (k + 1)).flatMap (kidsN S N l)) = adds (adds [0, 1] ((Q.take k).flatMap (kidsN S N l))) (kidsN S N l Q[k]) := by rw [flat_take hk, adds_app]
  obtain ⟨cs0, hcs0, _⟩ := id h.bl
  have bl2 := h.bl.kept k2 (h.ty.ne hcs0 (by decide) (by decide))
  obtain ⟨cs, hcs, _⟩ := id bl2
  have nr : NoRun wr P := by
    obtain ⟨_, _, hX⟩ := h.rf
    exact hX.nr
  have k3 : Kept (fun z => z = bb) w2 (w2.setCell ⟨bb, k, none⟩ (.slice (some ⟨g, 0, none⟩) (rlN f (S.getD l 0).toNat).length c)) := Kept.setCell (F := fun z => z = bb) (p := ⟨bb, k, none⟩) (Kept.refl _ _) rfl _
  have nr3 : NoRun w2 (fun z => z = bb) := fun z hz cs' e => by subst hz; exact ty_ne hcs e (by decide) rfl
  have nB : ∀ z, P' z → ¬ z = bb := fun z hp e => by subst e; exact ty2.ne hcs (by decide) (by decide) hp
  have b2 : Below wo.heap.size wo w2 := h.bel.trans (k2.below h.bel.size (fun z hz => h.new z hz))
  have push := bl2.push ⟨g, c, rlN f (S.getD l 0).toNat⟩ (by rw [h.len]; exact hk)
  rw [h.len] at push
  refine ⟨P', ⟨?_, ty2.kept k3 r2'.lt nB, fun z hz => ?_, push, h.hb, by rw [List.length_append, h.len]; rfl, fun i hi => ?_, b2.trans (k3.below b2.size (fun z hz => by rw [hz]; exact h.hb))⟩⟩
  · rw [eT]; exact r2'.kept k3 nB
  · rcases n2 z (sub z hz) with h1 | h1
    · exact h.new z h1
    · exact Nat.le_trans h.bel.size h1
  · rw [List.length_append, List.length_singleton, h.len] at hi
    rw [eT]
    rw [eT] at hfew
    by_cases e : i < k
    · have hib : i < BL.length := by rw [h.len]; exact e
      rw [List.getElem_append_left hib]
      obtain ⟨a1, a2, q, a3, a4⟩ := h.row i hib
      refine ⟨(a1.keptT k2 nr).keptT k3 nr3, a2, q, a3, fun c hc => ⟨(a4 c hc).1, adds_at (a4 c hc).2⟩⟩
    · obtain rfl : i = k := by omega
      have e2 : (BL ++ [(⟨g, c, rlN f (S.getD l 0).toNat⟩ : RD)])[i]'(by rw [List.length_append, List.length_singleton, h.len]; omega) = ⟨g, c, rlN f (S.getD l 0).toNat⟩ := by
        rw [List.getElem_append_right (by rw [h.len]; exact Nat.le_refl _)]
        simp
      rw [e2]
      have eg : Q.getD i 0 = Q[i] := by rw [List.getD_eq_getElem?_getD, List.getElem?_eq_getElem hk]; rfl
      rw [eg]
      refine ⟨hr.keptT k3 nr3, ⟨rlN_fit hs0 hs1 (fun j hj => ?_), hc1, hc2⟩, f, rfl, hf⟩
      obtain ⟨h1, h2⟩ := hf j hj
      have := some_lt h2
      exact ⟨h1, by omega⟩
/-- A level's rows. -/
theorem Rd3.rows (h : Rd3 S N l Q wo wr nx bb Q.length BL P) : RowsOf S N l Q (adds [0, 1] (Q.flatMap (kidsN S N l))) (rdR BL) := by
  refine ⟨by simp [rdR, h.len], fun i hi => ?_⟩
  have hib : i < BL.length := by rw [h.len]; exact hi
  obtain ⟨_, _, q, a3, a4⟩ := h.row i hib
  rw [List.take_length] at a4
  have eg : Q.getD i 0 = Q[i] := by rw [List.getD_eq_getElem?_getD, List.getElem?_eq_getElem hi]; rfl
  rw [eg] at a4
  exact ⟨q, by simp [rdR, List.getElem?_map, List.getElem?_eq_getElem hib, a3], a4⟩
theorem Rd3.layer (h : Rd3 S N l Q wo wr nx bb Q.length BL P) (hq : Q.length ≤ 100000) (rc : Nat) : RowsB wr wr.heap.size ⟨(l : Int), bb, rc, BL⟩ := by
  obtain ⟨cs, h1, _, h3⟩ := id h.bl
  refine ⟨⟨cs, h1, h3⟩, h.bl.lt, fun y hy => ?_, by show BL.length ≤ _; rw [h.len]; omega⟩
  obtain ⟨i, hi, rfl⟩ := List.getElem_of_mem hy
  exact ⟨(h.row i hi).1, (h.row i hi).2.1, (h.row i hi).1.lt⟩
end
/-- What the loop over the levels keeps. -/
structure Rd2 (S : List Int) (N : List Nd) (w wr : World) (d g r : Nat) (rs R : List Int) (rv lv : Value) (l : Nat) (Ls : List LA) (Q : List Int) (P : Nat → Prop) : Prop where
  res : wr.heap[w.heap.size]? = some (.cells #[.slice none 0 0, .slice none 0 0] 70 (0, 0))
  dbl : wr.heap[d]? = some (.cells #[rv, lv] 70 (0, 0))
  row : wr.ownsRow w.heap.size 21 1 rv R.length (iC R)
  lro : wr.ownsRow w.heap.size 105 2 lv Ls.length (laC Ls)
  ly : ∀ x ∈ Ls, RowsB wr wr.heap.size x
  len : Ls.length = l
  rf : RfAt wr r Q P
  ty : RfTy wr P
  new : ∀ z, P z → w.heap.size ≤ z
  bel : Below w.heap.size w wr
  hd : w.heap.size < d
  zs : ZBk wr g S
  ch : ChP S N 0 (adds [0, 1] rs) (layL Ls) Q
  ok : QOk S N l Q
section
variable {S : List Int} {M : Int} {N : List Nd} {w wr wo w2 w3 : World} {d g r nx bb : Nat} {rs R : List Int} {rv lv : Value} {l : Nat} {Ls : List LA} {Q : List Int} {P P' : Nat → Prop} {BL : List RD}
theorem Rd2.below (h : Rd2 S N w wr d g r rs R rv lv l Ls Q P) (x : Below wr.heap.size wr w2) : Rd2 S N w w2 d g r rs R rv lv l Ls Q P :=
  ⟨(x.block _ (lt_of_block h.res)).trans h.res, (x.block _ (lt_of_block h.dbl)).trans h.dbl, own_below h.row x, own_below h.lro x, fun y hy => ((h.ly y hy).below x).mono x.size, h.len, h.rf.below x, h.ty.kept (F := fun _ => False) (Kept.of_below x) h.rf.lt (fun _ _ h => h), h.new, bt h.bel x (Nat.le_refl _), h.hd, h.zs.below x, h.ch, h.ok⟩
/-- One level more. -/
theorem Rd2.step (hok : Ok S M N) (hl : l < S.length) (h : Rd2 S N w wo d g r rs R rv lv l Ls Q P) (h3 : Rd3 S N l Q wo wr nx bb Q.length BL P') (rc : Nat) (x2 : Below wr.heap.size wr w2) {g4 cap : Nat} (o4 : w3.ownsRow w.heap.size 105 2 (.slice (some ⟨g4, 0, none⟩) (l + 1) cap) (l + 1) (laC Ls ++ [.int .i64 (l : Int), .slice (some ⟨bb, 0, none⟩) Q.length rc])) (gr : w2.grownBy w3 lv.ownBlock) :
    ∃ Q2 P2, Rd2 S N w (w3.setCell ⟨d, 1, none⟩ (.slice (some ⟨g4, 0, none⟩) (l + 1) cap)) d g nx rs R rv (.slice (some ⟨g4, 0, none⟩) (l + 1) cap) (l + 1) (Ls ++ [⟨(l : Int), bb, rc, BL⟩]) Q2 P2 := by
  have hq := h.ok.few
  have hN := hok.few
  have hM := hok.m1
  have lay := h3.layer (by omega) rc
  have h' := (h.below h3.bel).below x2
  have h3' := h3.below x2
  have lay' := (lay.below x2).mono x2.size
  have st := StepQ.read hok hl h.ok h3.rows
  have k4 : Kept (fun z => lv.ownBlock = some z) w2 w3 := kept_of_grown gr
  have ntl : ∀ {z : Nat} {cs : Array Value} {T : TypeId} {f : Nat × Nat}, w2.heap[z]? = some (.cells cs T f) → T ≠ 105 → ¬ lv.ownBlock = some z := fun hb hT hz => by
    obtain ⟨cs', h5⟩ := own_ty h'.lro _ hz
    exact ty_ne h5 hb (fun e => hT e.symm) rfl
  have d4 := (k4.block d (lt_of_block h'.dbl) (ntl h'.dbl (by decide))).trans h'.dbl
  have e4 := (k4.block _ (lt_of_block h'.res) (ntl h'.res (by decide))).trans h'.res
  have row4 := own_kept h'.row k4 (fun z hz hv => by
    obtain ⟨cs', h5⟩ := own_ty h'.row _ hz
    exact ntl h5 (by decide) hv)
  have ly4 : ∀ x ∈ Ls ++ [(⟨(l : Int), bb, rc, BL⟩ : LA)], RowsB w2 w2.heap.size x := fun x hx => by
    rcases List.mem_append.1 hx with hx | hx
    · exact h'.ly x hx
    · rw [List.mem_singleton.1 hx]; exact lay'
  have k5 : Kept (fun z => z = d) w3 (w3.setCell ⟨d, 1, none⟩ (.slice (some ⟨g4, 0, none⟩) (l + 1) cap)) := Kept.setCell (F := fun z => z = d) (p := ⟨d, 1, none⟩) (Kept.refl _ _) rfl _
  have nP : ∀ z, P' z → ¬ lv.ownBlock = some z := fun z hp hz => by
    obtain ⟨cs', h5⟩ := own_ty h'.lro _ hz
    exact h3'.ty.ne h5 (by decide) (by decide) hp
  have r4 := h3'.rf.kept k4 nP
  have ty4 := h3'.ty.kept k4 h3'.rf.lt nP
  have nD : ∀ z, P' z → ¬ z = d := fun z hp e => by subst e; exact ty4.ne d4 (by decide) (by decide) hp
  obtain ⟨cz, hcz, _⟩ := id h'.zs
  have z4 := h'.zs.kept k4 (ntl hcz (by decide))
  obtain ⟨cz4, hcz4, _⟩ := id z4
  have z5 := z4.kept k5 (fun e => by subst e; exact ty_ne hcz4 d4 (by decide) rfl)
  have b4 : Below w.heap.size w w3 := h'.bel.trans (k4.below h'.bel.size (fun z hz => (World.ownsRow.lt h'.lro z hz).1))
  have el : laC (Ls ++ [(⟨(l : Int), bb, rc, BL⟩ : LA)]) = laC Ls ++ [.int .i64 (l : Int), .slice (some ⟨bb, 0, none⟩) Q.length rc] := by rw [laC_append]; simp [laC, h3.len]
  rw [List.take_length] at r4
  refine ⟨adds [0, 1] (Q.flatMap (kidsN S N l)), P', ⟨(k5.block _ (lt_of_block e4) (fun e => by have := h.hd; omega)).trans e4, ?_, own_kept row4 k5 (fun z hz e => ?_), ?_, fun x hx => ?_, by rw [List.length_append, h.len]; rfl, r4.kept k5 nD, ty4.kept k5 r4.lt nD, fun z hz => Nat.le_trans h.bel.size (h3.new z hz), b4.trans (k5.below b4.size (fun z hz => by rw [hz]; exact Nat.le_of_lt h.hd)), h.hd, z5, ?_, st.ok⟩⟩
  · have := block_setCell d4 1 (.slice (some ⟨g4, 0, none⟩) (l + 1) cap)
    simpa using this
  · obtain ⟨cs', h5⟩ := own_ty row4 _ hz
    exact ty_ne h5 d4 (by decide) e
  · rw [el, List.length_append, h.len]
    exact own_kept o4 k5 (fun z hz e => by
      obtain ⟨cs', h5⟩ := own_ty o4 _ hz
      exact ty_ne h5 d4 (by decide) e)
  · have hx4 := ly4 x hx
    obtain ⟨cs, c1, c2⟩ := hx4.blk
    have kk : ∀ {z : Nat} {cs : Array Value} {T : TypeId} {f : Nat × Nat}, w2.heap[z]? = some (.cells cs T f) → T ≠ 105 → T ≠ 70 → (w3.setCell ⟨d, 1, none⟩ (.slice (some ⟨g4, 0, none⟩) (l + 1) cap)).heap[z]? = w2.heap[z]? := fun {z cs T f} hb h1 h2 => by
      have a := k4.block z (lt_of_block hb) (ntl hb h1)
      have b := k5.block z (Nat.lt_of_lt_of_le (lt_of_block hb) k4.size) (fun e => by
        rw [e] at a hb
        exact ty_ne (a.trans hb) d4 h2 rfl)
      exact b.trans a
    have hsz : w2.heap.size ≤ (w3.setCell ⟨d, 1, none⟩ (.slice (some ⟨g4, 0, none⟩) (l + 1) cap)).heap.size := Nat.le_trans k4.size k5.size
    refine ⟨⟨cs, (kk c1 (by decide) (by decide)).trans c1, c2⟩, Nat.lt_of_lt_of_le hx4.lt hsz, fun y hy => ?_, hx4.few⟩
    obtain ⟨a1, a2, a3⟩ := hx4.row y hy
    obtain ⟨cy, hcy, _⟩ := id a1
    exact ⟨a1.congr (kk hcy (by decide) (by decide)), a2, Nat.lt_of_lt_of_le a3 hsz⟩
  · show ChP S N 0 (adds [0, 1] rs) ((Ls ++ [(⟨(l : Int), bb, rc, BL⟩ : LA)]).map LA.lay) _
    rw [List.map_append]
    refine ChP.snoc h.ch ?_
    rw [List.length_map, h.len, Nat.zero_add]
    exact st
end
end Go.Proofs.Ytnddhkhmbjeefaa
