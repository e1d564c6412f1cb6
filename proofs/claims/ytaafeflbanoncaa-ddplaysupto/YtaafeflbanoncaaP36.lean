/-
  put by its contract: the row that an operation must have. No condition.
-/
import Derived.Test.YtaafeflbanoncaaP29
namespace Go.Proofs.Ytaafeflbanoncaa
open Go.RowKit Go.Lib Go.Maps

/-- A step of a script. -/
structure OpZ where
  near : Bool
  what : Int
  f : Int
  g : Int
  h : Int
  l : Int
  c : Int
  ia : Option Addr
  il : Nat
  ic : Nat
  ca : Option Addr
  cl : Nat
  cc : Nat
def opA (z : OpZ) : Array Value := #[.bool z.near, .int .i64 z.what, .int .i64 z.f, .int .i64 z.g, .int .i64 z.h, .int .i64 z.l, .int .i64 z.c, .slice z.ia z.il z.ic, .slice z.ca z.cl z.cc]
def OpBx (w : World) (b : Nat) (z : OpZ) : Prop := w.heap[b]? = some (.cells (opA z) 38 (0, 0))
theorem OpBx.below {w w' : World} {b : Nat} {z : OpZ} (h : OpBx w b z) (x : Below w.heap.size w w') : OpBx w' b z := (x.block b (lt_of_block h)).trans h
theorem OpBx.cells {w : World} {b : Nat} {z : OpZ} (h : OpBx w b z) : w.cell? ⟨b, 1, none⟩ = some (.int .i64 z.what) ∧ w.cell? ⟨b, 2, none⟩ = some (.int .i64 z.f) ∧ w.cell? ⟨b, 3, none⟩ = some (.int .i64 z.g) ∧ w.cell? ⟨b, 5, none⟩ = some (.int .i64 z.l) ∧ w.cell? ⟨b, 6, none⟩ = some (.int .i64 z.c) ∧ w.cell? ⟨b, 7, none⟩ = some (.slice z.ia z.il z.ic) := by
  refine ⟨?_, ?_, ?_, ?_, ?_, ?_⟩ <;> (rw [cell_of_row w b _ _ _ _ h]; rfl)
structure OpFit (z : OpZ) : Prop where
  f : Fit z.f
  g : Fit z.g
  l : Fit z.l
  c : Fit z.c
/-- The level and the class that a step speaks of. -/
def lvZ (S : List Int) (z : OpZ) : Nat := pkZ z.l S.length
def clZ (S : List Int) (z : OpZ) : Nat := pkZ z.c (S.getD (lvZ S z) 0).toNat
theorem lvZ_lt {S : List Int} (h : SzOk S) (z : OpZ) : lvZ S z < S.length := pkZ_lt _ h.ge
theorem clZ_lt {S : List Int} (h : SzOk S) (z : OpZ) : (clZ S z : Int) < S.getD (lvZ S z) 0 := by
  have h1 := h.each _ (getD_mem (lvZ_lt h z))
  have := pkZ_lt z.c (n := (S.getD (lvZ S z) 0).toNat) (by omega)
  unfold clZ
  omega
/-- What it must say of the n-th point. -/
def putB (S : List Int) (z : OpZ) (A C : List Bool) (n : Nat) : Bool :=
  if z.what = 2 then !A.getD n false else if z.what = 3 then A.getD n false && C.getD n false else if z.what = 4 then A.getD n false || C.getD n false else if z.what = 5 then A.getD n false != C.getD n false else if z.what = 6 then A.getD (idx S ((pnL S n).set (lvZ S z) (clZ S z : Int))) false else A.getD n false
theorem ZBk.set {w : World} {b : Nat} {L : List Int} (h : ZBk w b L) (k : Nat) (x : Int) : ZBk (w.setCell ⟨b, k, none⟩ (.int .i64 x)) b (L.set k x) := by
  obtain ⟨cs, h1, h2⟩ := h
  refine ⟨cs.set! k (.int .i64 x), block_setCell h1 k _, fun i hi => ?_⟩
  rw [List.length_set] at hi
  have hc : i < cs.size := by
    rcases Nat.lt_or_ge i cs.size with h | h
    · exact h
    · have := h2 i hi; rw [Array.getElem?_eq_none h] at this; cases this
  by_cases e : i = k
  · subst e
    rw [List.getD_eq_getElem?_getD, List.getElem?_set_self hi]
    simp [hc]
  · rw [List.getD_eq_getElem?_getD, List.getElem?_set_ne (fun h => e h.symm), ← List.getD_eq_getElem?_getD]
    simp only [Array.set!_eq_setIfInBounds]
    rw [Array.getElem?_setIfInBounds_ne (fun h => e h.symm)]
    exact h2 i hi
theorem ZBk.fro {w : World} {b : Nat} {L : List Int} (h : ZBk w b L) (k : Nat) : w.frozen? ⟨b, k, none⟩ = false := by
  obtain ⟨cs, h1, _⟩ := h
  exact frozen_of_row w b k _ _ h1
theorem idx_drop {S L : List Int} {j : Nat} (hS : j < S.length) (hL : j < L.length) : idx (S.drop j) (L.drop j) = (L.getD j 0).toNat + (S.getD j 0).toNat * idx (S.drop (j + 1)) (L.drop (j + 1)) := by
  rw [List.drop_eq_getElem_cons hS, List.drop_eq_getElem_cons hL, idx, List.getD_eq_getElem?_getD, List.getD_eq_getElem?_getD, List.getElem?_eq_getElem hS, List.getElem?_eq_getElem hL]
  rfl
theorem PtL.drop {S L : List Int} (h : PtL S L) (j : Nat) : PtL (S.drop j) (L.drop j) := ⟨by rw [List.length_drop, List.length_drop, h.len], fun i hi => by
  rw [List.length_drop] at hi
  have := h.each (j + i) (by omega)
  rw [List.getD_eq_getElem?_getD, List.getD_eq_getElem?_getD] at this ⊢
  rw [List.getElem?_drop, List.getElem?_drop]
  exact this⟩
theorem prd_drop_le : ∀ (S : List Int) (j : Nat), (∀ s ∈ S, 1 ≤ s) → prd (S.drop j) ≤ prd S
  | S, 0, _ => by simp
  | [], j + 1, _ => by simp
  | s :: t, j + 1, h => by
    rw [List.drop_succ_cons]
    have h1 := prd_drop_le t j (fun x hx => h x (by simp [hx]))
    have hs := h s (by simp)
    have h2 : 1 * prd t ≤ s.toNat * prd t := Nat.mul_le_mul_right _ (by omega)
    have h3 : prd (s :: t) = s.toNat * prd t := rfl
    rw [h3]
    omega
theorem range_snoc {α : Type} (G : Nat → α) (k : Nat) : (List.range (k + 1)).map G = (List.range k).map G ++ [G k] := by rw [List.range_succ, List.map_append]; rfl
section
variable {w : World} {B tb a : Nat} {S : List Int} {M : Int} {N : List Nd} {P : Nat → Prop} {F : List Int} {R : List (List Bool)} {sb sc : Nat} {fv sv : Value} {V : List Value}
def PuL (S : List Int) (L : List Bool) (w : World) (e : Ending) (w' : World) : Prop := ∃ g c, e = .returned (.slice (some ⟨g, 0, none⟩) (prd S) c) ∧ w.heap.size ≤ g ∧ BBk w' g L ∧ Below w.heap.size w w'
/-- A row of the table, read. -/
theorem TI.rowAt (h : TI w B tb a S M N P F R sb sc fv sv V) {i : Nat} (hi : i < R.length) : ∃ s2 c2 rb rc, sv = .slice (some ⟨s2, 0, none⟩) R.length c2 ∧ s2 < w.heap.size ∧ w.cell? ⟨s2, i, none⟩ = some (.slice (some ⟨rb, 0, none⟩) (prd S) rc) ∧ BBk w rb (R.getD i []) ∧ (R.getD i []).length = prd S := by
  obtain ⟨sa, c2, hsv, hsp⟩ := own_shape h.tb.so
  have so := h.tb.so
  rw [h.tb.vl] at hsv hsp so
  obtain ⟨s2, rfl⟩ := hsp (by omega)
  obtain ⟨rb, rc, hV, hRB, hRP⟩ := h.tb.row i hi
  obtain ⟨_, hRR⟩ := h.says i hi
  have hrl : (R.getD i []).length = prd S := by rw [hRR]; exact rowP_length
  rw [hrl] at hV
  have hl := (World.ownsRow.lt so s2 (by rw [hsv]; rfl)).2
  rw [hsv] at so
  exact ⟨s2, c2, rb, rc, hsv, hl, (World.ownsRow.cellAt so i (by omega)).trans hV, hRB, hrl⟩
set_option maxRecDepth 100000 in
set_option maxHeartbeats 8000000 in
theorem put_row {z : OpZ} {i k : Nat} {A C : List Bool} (hA : R.getD i [] = A) (hC : R.getD k [] = C) (h : TI w B tb a S M N P F R sb sc fv sv V) (hpr : prd S ≤ 100000) (hz : OpFit z) (hi : i < R.length) (hk : k < R.length) :
    Calls Try.prog 47 #[.pointer (some ⟨tb, 0, none⟩), .agg (opA z), .int .i64 (i : Int), .int .i64 (k : Int)] w fun e w' => PuL S ((List.range (prd S)).map (putB S z A C)) w e w' := by
  obtain ⟨i4, hi4, hz40, hz41, hz42⟩ := info_parts Try.info4
  have HH := hide h
  have HAA := hide hA
  have HCC := hide hC
  have HFT := hide hz
  have hsz := h.ca.ok.sz
  have HSZ := hide hsz
  have hpp : 0 < prd S := by
    have := idx_lt S _ (pnL_ptl S hsz.pos 0)
    omega
  have hs12 := hsz.le
  have y1 : Below w.heap.size w (w.alloc (.cells (opA z) 38)) := al (Below.refl _ _) _
  have nb : OpBx (w.alloc (.cells (opA z) 38)) w.heap.size z := heap_alloc_new w _
  have Y1 := hide y1
  have NB := hide nb
  unfold opA at Y1 NB
  clear h hz hsz y1 nb hA hC
  show Calls Try.prog 47 #[.pointer (some ⟨tb, 0, none⟩), .agg #[.bool z.near, .int .i64 z.what, .int .i64 z.f, .int .i64 z.g, .int .i64 z.h, .int .i64 z.l, .int .i64 z.c, .slice z.ia z.il z.ic, .slice z.ca z.cl z.cc], .int .i64 (i : Int), .int .i64 (k : Int)] w _
  go_enter Try.func47, Try.ntmps47
  go_upto_region 1 with fail
  generalize w.alloc (.cells #[.bool z.near, .int .i64 z.what, .int .i64 z.f, .int .i64 z.g, .int .i64 z.h, .int .i64 z.l, .int .i64 z.c, .slice z.ia z.il z.ic, .slice z.ca z.cl z.cc] 38) = w1 at *
  have X1 := hide Y1.out
  clear Y1
  generalize hob : w.heap.size = ob at *
  have HOB := hide hob
  clear hob
  go_wp2
  go_loopw [9, 10] (fun v x wr => ∃ n : Nat, n ≤ prd S ∧ x = .int .i64 n ∧ Hid (wr.ownsRow w1.heap.size 4 1 v n (bC ((List.range n).map (putB S z A C)))) ∧ Hid (Below w1.heap.size w1 wr)) (fun _ x _ => prd S - (RowKit.intOf x).toNat)
  case atStart => exact ⟨0, Nat.zero_le _, rfl, World.ownsRow_nil _ _ _ _, Below.refl _ _⟩
  case round =>
    obtain ⟨n, hn, rfl, HO, HQ⟩ := hrel
    obtain ⟨wq, hwq⟩ : ∃ wq, wq = wr := ⟨_, rfl⟩
    subst hwq
    obtain ⟨la, lc, rfl, _⟩ := own_shape HO.out
    have X0 : Hid (Below ob w wq) := by
      have h1 := X1.out
      have h2 := HOB.out
      exact bt h1 HQ.out (by omega)
    have HI : Hid (TI wq B tb a S M N P F R sb sc fv sv V) := HH.out.below (by rw [HOB.out]; exact X0.out)
    obtain ⟨t0, t1, t2, t3⟩ := HI.out.tb.blk.cells
    obtain ⟨s2, c2, rb1, rc1, hsv, hs2, hc1, hB1, hl1⟩ := HI.out.rowAt hi
    obtain ⟨s2', c2', rb2, rc2, hsv', hs2', hc2, hB2, hl2⟩ := HI.out.rowAt hk
    rw [HAA.out] at hB1 hl1
    rw [HCC.out] at hB2 hl2
    subst hsv
    injection hsv' with e1 e2 e3
    injection e1 with e1
    injection e1 with e1
    subst e1 e3
    have NBr := NB.out.below HQ.out
    obtain ⟨o1, o2, o3, o5, o6, o7⟩ := NBr.cells
    have hi' : (i : Int) < (R.length : Int) := by omega
    have hk' : (k : Int) < (R.length : Int) := by omega
    by_cases hlt : n < prd S
    · have hlt' : (n : Int) < (prd S : Int) := by omega
      have p1 := hB1.cell (i := n) (by rw [hl1]; exact hlt)
      have p2 := hB2.cell (i := n) (by rw [hl2]; exact hlt)
      obtain ⟨xA, hxA⟩ : ∃ x, A.getD n false = x := ⟨_, rfl⟩
      obtain ⟨xC, hxC⟩ : ∃ x, C.getD n false = x := ⟨_, rfl⟩
      rw [hxA] at p1
      rw [hxC] at p2
      have HB1 := hide hB1
      have HL1 := hide hl1
      have HXA := hide hxA
      have HXC := hide hxC
      clear hxA hxC hB1 hl1 hB2 hl2 NBr
      go_upto_block 2 with fail
      go_cut [11] (fun v wx => v = .bool (putB S z A C n) ∧ Hid (Below wq.heap.size wq wx))
      case first =>
        by_cases w2 : z.what = 2
        · have HR : Hid (putB S z A C n = !xA) := by unfold Hid putB; rw [if_pos w2, HXA.out]
          have w2' : (z.what == 2) = true := by rw [w2]; rfl
          clear w2
          go_wp2
          go_meet
          exact ⟨by rw [HR.out] <;> rfl, Below.refl _ _⟩
        have w2' : (z.what == 2) = false := beq_eq_false_iff_ne.2 w2
        by_cases w3 : z.what = 3
        · have HR : Hid (putB S z A C n = (xA && xC)) := by unfold Hid putB; rw [if_neg w2, if_pos w3, HXA.out, HXC.out]
          have w3' : (z.what == 3) = true := by rw [w3]; rfl
          clear w3
          cases xA
          · go_wp2
            go_meet
            exact ⟨by rw [HR.out]; rfl, Below.refl _ _⟩
          · go_wp2
            go_meet
            exact ⟨by rw [HR.out]; rfl, Below.refl _ _⟩
        have w3' : (z.what == 3) = false := beq_eq_false_iff_ne.2 w3
        by_cases w4 : z.what = 4
        · have HR : Hid (putB S z A C n = (xA || xC)) := by unfold Hid putB; rw [if_neg w2, if_neg w3, if_pos w4, HXA.out, HXC.out]
          have w4' : (z.what == 4) = true := by rw [w4]; rfl
          clear w4
          cases xA
          · go_wp2
            go_meet
            exact ⟨by rw [HR.out]; rfl, Below.refl _ _⟩
          · go_wp2
            go_meet
            exact ⟨by rw [HR.out]; rfl, Below.refl _ _⟩
        have w4' : (z.what == 4) = false := beq_eq_false_iff_ne.2 w4
        by_cases w5 : z.what = 5
        · have HR : Hid (putB S z A C n = (xA != xC)) := by unfold Hid putB; rw [if_neg w2, if_neg w3, if_neg w4, if_pos w5, HXA.out, HXC.out]
          have w5' : (z.what == 5) = true := by rw [w5]; rfl
          clear w5
          go_wp2
          go_meet
          exact ⟨by rw [HR.out] <;> rfl, Below.refl _ _⟩
        have w5' : (z.what == 5) = false := beq_eq_false_iff_ne.2 w5
        by_cases w6 : z.what = 6
        · have HR : Hid (putB S z A C n = A.getD (idx S ((pnL S n).set (lvZ S z) (clZ S z : Int))) false) := by unfold Hid putB; rw [if_neg w2, if_neg w3, if_neg w4, if_neg w5, if_pos w6]
          have w6' : (z.what == 6) = true := by rw [w6]; rfl
          clear w6
          have PT := hide (point_any (n := n) HI.out.tb.blk HSZ.out (by omega))
          have hlv := lvZ_lt HSZ.out z
          have hcl := clZ_lt HSZ.out z
          have PK1 := hide (fun W => pick_any z.l S.length HFT.out.l (by omega) (by omega) W)
          have hsr := HSZ.out.each _ (getD_mem hlv)
          obtain ⟨sN, hsN⟩ : ∃ sN : Nat, S.getD (lvZ S z) 0 = (sN : Int) := ⟨(S.getD (lvZ S z) 0).toNat, by omega⟩
          rw [hsN] at hsr hcl
          have PK2 := hide (fun W => pick_any z.c sN HFT.out.c (by omega) (by omega) W)
          have e1 : pkZ z.l S.length = lvZ S z := rfl
          have e2 : pkZ z.c sN = clZ S z := by unfold clZ; rw [hsN, Int.toNat_natCast]
          rw [e1] at PK1
          rw [e2] at PK2
          have HSN2 := hide hsN
          have HPL : Hid (PtL S ((pnL S n).set (lvZ S z) (clZ S z : Int))) := (pnL_ptl S HSZ.out.pos n).set (by rw [hsN]; exact hcl)
          clear e1 e2 hsN
          generalize lvZ S z = lv at *
          generalize clZ S z = cv at *
          have HPN : Hid ((pnL S n).length = S.length) := pnL_length S n
          go_upto_region 18 with (go_at_call 46; refine PT.out.mono ?_; rintro e w2 ⟨g, c, rfl, hg, z2, x2⟩; have X2 := hide x2; have Z2 := hide z2; have L2 := hide hg; clear hg z2 x2)
          clear PT
          have X5 : Hid (Below wq.heap.size wq w2.drew) := X2.out.drew
          have Z5 : Hid (ZBk w2.drew g (pnL S n)) := Z2.out
          refine wp_unt (S := fun V => V = w2.drew) 8 (by kernel_rfl) ?_
          generalize w2.drew = w5 at *
          have T5 := (HI.out.below X5.out).tb.blk
          obtain ⟨u0, u1, u2, u3⟩ := T5.cells
          have NB5 := (NB.out.below HQ.out).below X5.out
          obtain ⟨v1, v2, v3, v5, v6, v7⟩ := NB5.cells
          refine UntH.take (i := 0) (some 73) rfl rfl (by kernel_rfl) (by kernel_rfl) (by kernel_rfl) (by kernel_rfl) (fun _ _ _ _ h => h) (by rfl) rfl ?_
          apply Exists.intro
          refine ⟨fun w' hw' => ?_, ?_⟩
          · subst hw'
            go_simp
            first | done | rfl
          try simp only [Act.put, List.setIfInBounds_toArray, List.set_cons_zero, List.set_cons_succ]
          refine UntH.take (i := 1) (some 74) rfl rfl (by kernel_rfl) (by kernel_rfl) (by kernel_rfl) (by kernel_rfl) (fun _ _ _ _ h => h) (by rfl) rfl ?_
          apply Exists.intro
          refine ⟨fun w' hw' => ?_, ?_⟩
          · subst hw'
            go_simp
            first | done | rfl
          try simp only [Act.put, List.setIfInBounds_toArray, List.set_cons_zero, List.set_cons_succ]
          refine UntH.take (i := 2) (some 75) rfl rfl (by kernel_rfl) (by kernel_rfl) (by kernel_rfl) (by kernel_rfl) (fun _ _ _ _ h => h) (by rfl) rfl ?_
          apply Exists.intro
          refine ⟨fun w' hw' => ?_, ?_⟩
          · subst hw'
            go_simp
            first | done | rfl
          try simp only [Act.put, List.setIfInBounds_toArray, List.set_cons_zero, List.set_cons_succ]
          refine UntH.take (i := 3) (some 76) rfl rfl (by kernel_rfl) (by kernel_rfl) (by kernel_rfl) (by kernel_rfl) (fun _ _ _ _ h => h) (by rfl) rfl ?_
          apply Exists.intro
          refine ⟨fun w' hw' => ?_, ?_⟩
          · subst hw'
            go_simp
            first | done | rfl
          try simp only [Act.put, List.setIfInBounds_toArray, List.set_cons_zero, List.set_cons_succ]
          refine UntH.take (i := 4) (some 77) rfl rfl (by kernel_rfl) (by kernel_rfl) (by kernel_rfl) (by kernel_rfl) (fun _ _ _ _ h => h) (by rfl) rfl ?_
          apply Exists.intro
          refine ⟨fun w' hw' => ?_, ?_⟩
          · subst hw'
            go_simp
            first | done | rfl
          try simp only [Act.put, List.setIfInBounds_toArray, List.set_cons_zero, List.set_cons_succ]
          refine UntH.take (i := 5) (some 78) rfl rfl (by kernel_rfl) (by kernel_rfl) (by kernel_rfl) (by kernel_rfl) (fun _ _ _ _ h => h) (by rfl) rfl ?_
          apply Exists.intro
          refine ⟨fun w' hw' => ?_, ?_⟩
          · subst hw'
            go_simp
            first | done | rfl
          try simp only [Act.put, List.setIfInBounds_toArray, List.set_cons_zero, List.set_cons_succ]
          refine UntH.take (i := 6) (some 79) rfl rfl (by kernel_rfl) (by kernel_rfl) (by kernel_rfl) (by kernel_rfl) (fun _ _ _ _ h => h) (by rfl) rfl ?_
          apply Exists.intro
          refine ⟨fun w' hw' => ?_, ?_⟩
          · subst hw'
            go_simp
            first | done | rfl
          try simp only [Act.put, List.setIfInBounds_toArray, List.set_cons_zero, List.set_cons_succ]
          refine UntH.step (i := 7) (by kernel_rfl) rfl (fun K hK => ?_)
          go_simp
          refine (PK1.out w5).mono ?_
          rintro e w8 ⟨rfl, hw8⟩
          have hw9 := hw8.symm
          clear hw8
          subst hw9
          go_simp
          refine hK _ _ rfl ?_
          clear hK K PK1
          refine UntH.last (by kernel_rfl) rfl (by kernel_rfl) (by kernel_rfl) (fun K hK => ?_)
          go_simp
          refine hK _ _ ?_
          clear hK K u0 u1 u2 u3 v1 v2 v3 v5 v6 v7 NB5 T5
          go_upto_region 19 with fail
          have X6 : Hid (Below wq.heap.size wq w5.drew) := X5.out.drew
          have Z6 : Hid (ZBk w5.drew g (pnL S n)) := Z5.out
          refine wp_unt (S := fun V => V = w5.drew) 13 (by kernel_rfl) ?_
          generalize w5.drew = w6 at *
          have T6 := (HI.out.below X6.out).tb.blk
          obtain ⟨u0, u1, u2, u3⟩ := T6.cells
          have NB6 := (NB.out.below HQ.out).below X6.out
          obtain ⟨v1, v2, v3, v5, v6, v7⟩ := NB6.cells
          have u4 := T6.2.cell hlv
          rw [HSN2.out] at u4
          have hlv' : (lv : Int) < (S.length : Int) := by omega
          have f6 := Z6.out.fro lv
          have g6 := Z6.out.cell (i := lv) (by rw [HPN.out]; exact hlv)
          refine UntH.take (i := 0) (some 81) rfl rfl (by kernel_rfl) (by kernel_rfl) (by kernel_rfl) (by kernel_rfl) (fun _ _ _ _ h => h) (by rfl) rfl ?_
          apply Exists.intro
          refine ⟨fun w' hw' => ?_, ?_⟩
          · subst hw'
            go_simp
            first | done | rfl
          try simp only [Act.put, List.setIfInBounds_toArray, List.set_cons_zero, List.set_cons_succ]
          refine UntH.take (i := 1) (some 82) rfl rfl (by kernel_rfl) (by kernel_rfl) (by kernel_rfl) (by kernel_rfl) (fun _ _ _ _ h => h) (by rfl) rfl ?_
          apply Exists.intro
          refine ⟨fun w' hw' => ?_, ?_⟩
          · subst hw'
            go_simp
            first | done | rfl
          try simp only [Act.put, List.setIfInBounds_toArray, List.set_cons_zero, List.set_cons_succ]
          refine UntH.take (i := 2) (some 83) rfl rfl (by kernel_rfl) (by kernel_rfl) (by kernel_rfl) (by kernel_rfl) (fun _ _ _ _ h => h) (by rfl) rfl ?_
          apply Exists.intro
          refine ⟨fun w' hw' => ?_, ?_⟩
          · subst hw'
            go_simp
            first | done | rfl
          try simp only [Act.put, List.setIfInBounds_toArray, List.set_cons_zero, List.set_cons_succ]
          refine UntH.take (i := 3) (some 84) rfl rfl (by kernel_rfl) (by kernel_rfl) (by kernel_rfl) (by kernel_rfl) (fun _ _ _ _ h => h) (by rfl) rfl ?_
          apply Exists.intro
          refine ⟨fun w' hw' => ?_, ?_⟩
          · subst hw'
            go_simp
            first | done | rfl
          try simp only [Act.put, List.setIfInBounds_toArray, List.set_cons_zero, List.set_cons_succ]
          refine UntH.take (i := 4) (some 85) rfl rfl (by kernel_rfl) (by kernel_rfl) (by kernel_rfl) (by kernel_rfl) (fun _ _ _ _ h => h) (by rfl) rfl ?_
          apply Exists.intro
          refine ⟨fun w' hw' => ?_, ?_⟩
          · subst hw'
            go_simp
            first | done | rfl
          try simp only [Act.put, List.setIfInBounds_toArray, List.set_cons_zero, List.set_cons_succ]
          refine UntH.take (i := 5) (some 86) rfl rfl (by kernel_rfl) (by kernel_rfl) (by kernel_rfl) (by kernel_rfl) (fun _ _ _ _ h => h) (by rfl) rfl ?_
          apply Exists.intro
          refine ⟨fun w' hw' => ?_, ?_⟩
          · subst hw'
            go_simp
            first | done | rfl
          try simp only [Act.put, List.setIfInBounds_toArray, List.set_cons_zero, List.set_cons_succ]
          refine UntH.take (i := 6) (some 87) rfl rfl (by kernel_rfl) (by kernel_rfl) (by kernel_rfl) (by kernel_rfl) (fun _ _ _ _ h => h) (by rfl) rfl ?_
          apply Exists.intro
          refine ⟨fun w' hw' => ?_, ?_⟩
          · subst hw'
            go_simp
            first | done | rfl
          try simp only [Act.put, List.setIfInBounds_toArray, List.set_cons_zero, List.set_cons_succ]
          refine UntH.take (i := 7) (some 88) rfl rfl (by kernel_rfl) (by kernel_rfl) (by kernel_rfl) (by kernel_rfl) (fun _ _ _ _ h => h) (by rfl) rfl ?_
          apply Exists.intro
          refine ⟨fun w' hw' => ?_, ?_⟩
          · subst hw'
            go_simp
            first | done | rfl
          try simp only [Act.put, List.setIfInBounds_toArray, List.set_cons_zero, List.set_cons_succ]
          refine UntH.take (i := 8) (some 89) rfl rfl (by kernel_rfl) (by kernel_rfl) (by kernel_rfl) (by kernel_rfl) (fun _ _ _ _ h => h) (by rfl) rfl ?_
          apply Exists.intro
          refine ⟨fun w' hw' => ?_, ?_⟩
          · subst hw'
            go_simp
            first | done | rfl
          try simp only [Act.put, List.setIfInBounds_toArray, List.set_cons_zero, List.set_cons_succ]
          refine UntH.take (i := 9) (some 90) rfl rfl (by kernel_rfl) (by kernel_rfl) (by kernel_rfl) (by kernel_rfl) (fun _ _ _ _ h => h) (by rfl) rfl ?_
          apply Exists.intro
          refine ⟨fun w' hw' => ?_, ?_⟩
          · subst hw'
            go_simp
            first | done | rfl
          try simp only [Act.put, List.setIfInBounds_toArray, List.set_cons_zero, List.set_cons_succ]
          refine UntH.take (i := 10) (some 91) rfl rfl (by kernel_rfl) (by kernel_rfl) (by kernel_rfl) (by kernel_rfl) (fun _ _ _ _ h => h) (by rfl) rfl ?_
          apply Exists.intro
          refine ⟨fun w' hw' => ?_, ?_⟩
          · subst hw'
            go_simp
            first | done | rfl
          try simp only [Act.put, List.setIfInBounds_toArray, List.set_cons_zero, List.set_cons_succ]
          refine UntH.step (i := 11) (by kernel_rfl) rfl (fun K hK => ?_)
          go_simp
          refine (PK2.out w6).mono ?_
          rintro e w8 ⟨rfl, hw8⟩
          have hw9 := hw8.symm
          clear hw8
          subst hw9
          go_simp
          refine hK _ _ rfl ?_
          clear hK K PK2
          refine UntH.take (i := 12) (some 93) rfl rfl (by kernel_rfl) (by kernel_rfl) (by kernel_rfl) (by kernel_rfl) (fun _ _ _ _ h => h) (by rfl) rfl ?_
          apply Exists.intro
          refine ⟨fun w' hw' => ?_, ?_⟩
          · subst hw'
            go_simp
            first | done | rfl
          try simp only [Act.put, List.setIfInBounds_toArray, List.set_cons_zero, List.set_cons_succ]
          refine UntH.last (by kernel_rfl) rfl (by kernel_rfl) (by kernel_rfl) (fun K hK => ?_)
          go_simp
          refine hK _ _ ?_
          clear hK K
          have X7 : Hid (Below wq.heap.size wq (w6.setCell ⟨g, lv, none⟩ (.int .i64 (cv : Int)))) := bl X6.out L2.out _ _
          have Z7 := hide (Z6.out.set lv (cv : Int))
          clear u0 u1 u2 u3 u4 v1 v2 v3 v5 v6 v7 f6 g6 NB6 T6
          generalize w6.setCell ⟨g, lv, none⟩ (.int .i64 (cv : Int)) = w7 at *
          obtain ⟨L, hL⟩ : ∃ L, (pnL S n).set lv (cv : Int) = L := ⟨_, rfl⟩
          rw [hL] at HR Z7 HPL
          clear hL
          have hLl : L.length = S.length := HPL.out.len
          have hpb : ∀ j, idx (S.drop j) (L.drop j) < 100001 := fun j => by
            have h1 := idx_lt _ _ (HPL.out.drop j)
            have h2 := prd_drop_le S j HSZ.out.pos
            omega
          have HPB := hide hpb
          clear hpb
          go_upto_block 3 with fail
          go_cut [15] (fun v wx => v = .int .i64 (idx S L : Nat) ∧ Hid (Below w7.heap.size w7 wx))
          case first =>
            go_wp2
            go_loopw [15, 16] (fun v x wz => ∃ (j : Nat) (cc : Int), j ≤ S.length ∧ cc + 1 = (j : Int) ∧ x = .int .i64 cc ∧ v = .int .i64 ((idx (S.drop j) (L.drop j) : Nat) : Int) ∧ Hid (Below w7.heap.size w7 wz)) (fun _ x _ => (RowKit.intOf x + 1).toNat)
            case atStart =>
              refine ⟨S.length, _, Nat.le_refl _, ?_, rfl, ?_, Below.refl _ _⟩
              · omega
              · rw [List.drop_length]
                cases L.drop S.length <;> rfl
            case round =>
              obtain ⟨j, cc, hj, hcc, rfl, rfl, HZ⟩ := hrel
              by_cases hj0 : j = 0
              · subst hj0
                obtain rfl : cc = -1 := by omega
                rw [List.drop_zero, List.drop_zero]
                go_wp2
                go_meet
                exact ⟨rfl, HZ⟩
              · obtain ⟨j', rfl⟩ : ∃ j', j = j' + 1 := ⟨j - 1, by omega⟩
                obtain rfl : cc = (j' : Int) := by omega
                have hjs : j' < S.length := by omega
                have hjs' : (j' : Int) < (S.length : Int) := by omega
                have hid := idx_drop hjs (show j' < L.length by omega)
                have hb1 := HPB.out j'
                have hb2 := HPB.out (j' + 1)
                have hes := HSZ.out.each _ (getD_mem hjs)
                have hel := HPL.out.each j' (by omega)
                obtain ⟨sj, hsj⟩ : ∃ sj : Nat, S.getD j' 0 = (sj : Int) := ⟨(S.getD j' 0).toNat, by omega⟩
                obtain ⟨xj, hxj⟩ : ∃ xj : Nat, L.getD j' 0 = (xj : Int) := ⟨(L.getD j' 0).toNat, by omega⟩
                rw [hsj, hxj, Int.toNat_natCast, Int.toNat_natCast] at hid
                have X8 : Hid (Below w7.heap.size w7 wr.drew) := HZ.out.drew
                have W8 := hide (bt X7.out X8.out (Nat.le_refl _))
                go_upto_region 24 with fail
                refine wp_unt (S := fun V => V = wr.drew) 14 (by kernel_rfl) ?_
                generalize wr.drew = w8 at *
                have T8 := (HI.out.below W8.out).tb.blk
                obtain ⟨u0, u1, u2, u3⟩ := T8.cells
                have u4 := T8.2.cell hjs
                rw [hsj] at u4
                have q4 := (Z7.out.below X8.out).cell (i := j') (by omega)
                rw [hxj] at q4
                have hjl : (j' : Int) < ((pnL S n).length : Int) := by rw [HPN.out]; omega
                obtain ⟨ix, hix⟩ : ∃ ix, idx (S.drop (j' + 1)) (L.drop (j' + 1)) = ix := ⟨_, rfl⟩
                rw [hix] at hid hb2 ⊢
                obtain ⟨m, hm⟩ : ∃ m, ix * sj = m := ⟨_, rfl⟩
                obtain ⟨t, ht⟩ : ∃ t, m + xj = t := ⟨_, rfl⟩
                have hid2 : idx (S.drop j') (L.drop j') = t := by rw [hid, Nat.mul_comm, hm]; omega
                rw [hid2] at hb1
                have hcast : (ix : Int) * (sj : Int) = (m : Int) := by rw [← Int.natCast_mul, hm]
                have hmul : IntKind.i64.wrap ((ix : Int) * (sj : Int)) = (m : Int) := by
                  rw [hcast]
                  simp [IntKind.wrap, IntKind.bits, IntKind.signed]
                  omega
                have hmul2 : wrap64 ((ix : Int) * (sj : Int)) = (m : Int) := by
                  rw [hcast]
                  unfold wrap64
                  omega
                have hadd : IntKind.i64.wrap ((m : Int) + (xj : Int)) = (t : Int) := by
                  rw [show (m : Int) + (xj : Int) = (t : Int) by omega]
                  simp [IntKind.wrap, IntKind.bits, IntKind.signed]
                  omega
                have hadd2 : wrap64 ((m : Int) + (xj : Int)) = (t : Int) := by
                  rw [show (m : Int) + (xj : Int) = (t : Int) by omega]
                  unfold wrap64
                  omega
                have HID := hide hid2
                have HLL := hide hLl
                clear hid hid2 hb1 hb2 hes hel hix hm ht hcast hsj hxj T8 hLl hcc
                refine UntH.take (i := 0) (some 101) rfl rfl (by kernel_rfl) (by kernel_rfl) (by kernel_rfl) (by kernel_rfl) (fun _ _ _ _ h => h) (by rfl) rfl ?_
                apply Exists.intro
                refine ⟨fun w' hw' => ?_, ?_⟩
                · subst hw'
                  go_simp
                  first | done | rfl
                try simp only [Act.put, List.setIfInBounds_toArray, List.set_cons_zero, List.set_cons_succ]
                refine UntH.take (i := 1) (some 102) rfl rfl (by kernel_rfl) (by kernel_rfl) (by kernel_rfl) (by kernel_rfl) (fun _ _ _ _ h => h) (by rfl) rfl ?_
                apply Exists.intro
                refine ⟨fun w' hw' => ?_, ?_⟩
                · subst hw'
                  go_simp
                  first | done | rfl
                try simp only [Act.put, List.setIfInBounds_toArray, List.set_cons_zero, List.set_cons_succ]
                refine UntH.take (i := 2) (some 103) rfl rfl (by kernel_rfl) (by kernel_rfl) (by kernel_rfl) (by kernel_rfl) (fun _ _ _ _ h => h) (by rfl) rfl ?_
                apply Exists.intro
                refine ⟨fun w' hw' => ?_, ?_⟩
                · subst hw'
                  go_simp
                  first | done | rfl
                try simp only [Act.put, List.setIfInBounds_toArray, List.set_cons_zero, List.set_cons_succ]
                refine UntH.take (i := 3) (some 104) rfl rfl (by kernel_rfl) (by kernel_rfl) (by kernel_rfl) (by kernel_rfl) (fun _ _ _ _ h => h) (by rfl) rfl ?_
                apply Exists.intro
                refine ⟨fun w' hw' => ?_, ?_⟩
                · subst hw'
                  go_simp
                  first | done | rfl
                try simp only [Act.put, List.setIfInBounds_toArray, List.set_cons_zero, List.set_cons_succ]
                refine UntH.take (i := 4) (some 105) rfl rfl (by kernel_rfl) (by kernel_rfl) (by kernel_rfl) (by kernel_rfl) (fun _ _ _ _ h => h) (by rfl) rfl ?_
                apply Exists.intro
                refine ⟨fun w' hw' => ?_, ?_⟩
                · subst hw'
                  go_simp
                  first | done | rfl
                try simp only [Act.put, List.setIfInBounds_toArray, List.set_cons_zero, List.set_cons_succ]
                refine UntH.take (i := 5) (some 106) rfl rfl (by kernel_rfl) (by kernel_rfl) (by kernel_rfl) (by kernel_rfl) (fun _ _ _ _ h => h) (by rfl) rfl ?_
                apply Exists.intro
                refine ⟨fun w' hw' => ?_, ?_⟩
                · subst hw'
                  go_simp
                  first | done | rfl
                try simp only [Act.put, List.setIfInBounds_toArray, List.set_cons_zero, List.set_cons_succ]
                refine UntH.take (i := 6) (some 107) rfl rfl (by kernel_rfl) (by kernel_rfl) (by kernel_rfl) (by kernel_rfl) (fun _ _ _ _ h => h) (by rfl) rfl ?_
                apply Exists.intro
                refine ⟨fun w' hw' => ?_, ?_⟩
                · subst hw'
                  go_simp
                  first | done | rfl
                try simp only [Act.put, List.setIfInBounds_toArray, List.set_cons_zero, List.set_cons_succ]
                refine UntH.take (i := 7) (some 108) rfl rfl (by kernel_rfl) (by kernel_rfl) (by kernel_rfl) (by kernel_rfl) (fun _ _ _ _ h => h) (by rfl) rfl ?_
                apply Exists.intro
                refine ⟨fun w' hw' => ?_, ?_⟩
                · subst hw'
                  go_simp
                  first | done | rfl
                try simp only [Act.put, List.setIfInBounds_toArray, List.set_cons_zero, List.set_cons_succ]
                refine UntH.take (i := 8) (some 109) rfl rfl (by kernel_rfl) (by kernel_rfl) (by kernel_rfl) (by kernel_rfl) (fun _ _ _ _ h => h) (by rfl) rfl ?_
                apply Exists.intro
                refine ⟨fun w' hw' => ?_, ?_⟩
                · subst hw'
                  go_simp
                  first | done | rfl
                try simp only [Act.put, List.setIfInBounds_toArray, List.set_cons_zero, List.set_cons_succ]
                refine UntH.take (i := 9) (some 110) rfl rfl (by kernel_rfl) (by kernel_rfl) (by kernel_rfl) (by kernel_rfl) (fun _ _ _ _ h => h) (by rfl) rfl ?_
                apply Exists.intro
                refine ⟨fun w' hw' => ?_, ?_⟩
                · subst hw'
                  go_simp
                  first | done | rfl
                try simp only [Act.put, List.setIfInBounds_toArray, List.set_cons_zero, List.set_cons_succ]
                refine UntH.take (i := 10) (some 111) rfl rfl (by kernel_rfl) (by kernel_rfl) (by kernel_rfl) (by kernel_rfl) (fun _ _ _ _ h => h) (by rfl) rfl ?_
                apply Exists.intro
                refine ⟨fun w' hw' => ?_, ?_⟩
                · subst hw'
                  go_simp
                  first | done | rfl
                try simp only [Act.put, List.setIfInBounds_toArray, List.set_cons_zero, List.set_cons_succ]
                refine UntH.take (i := 11) (some 112) rfl rfl (by kernel_rfl) (by kernel_rfl) (by kernel_rfl) (by kernel_rfl) (fun _ _ _ _ h => h) (by rfl) rfl ?_
                apply Exists.intro
                refine ⟨fun w' hw' => ?_, ?_⟩
                · subst hw'
                  go_simp
                  first | done | rfl
                try simp only [Act.put, List.setIfInBounds_toArray, List.set_cons_zero, List.set_cons_succ]
                refine UntH.take (i := 12) (some 113) rfl rfl (by kernel_rfl) (by kernel_rfl) (by kernel_rfl) (by kernel_rfl) (fun _ _ _ _ h => h) (by rfl) rfl ?_
                apply Exists.intro
                refine ⟨fun w' hw' => ?_, ?_⟩
                · subst hw'
                  go_simp
                  first | done | rfl
                try simp only [Act.put, List.setIfInBounds_toArray, List.set_cons_zero, List.set_cons_succ]
                refine UntH.take (i := 13) (some 114) rfl rfl (by kernel_rfl) (by kernel_rfl) (by kernel_rfl) (by kernel_rfl) (fun _ _ _ _ h => h) (by rfl) rfl ?_
                apply Exists.intro
                refine ⟨fun w' hw' => ?_, ?_⟩
                · subst hw'
                  go_simp
                  first | done | rfl
                try simp only [Act.put, List.setIfInBounds_toArray, List.set_cons_zero, List.set_cons_succ]
                refine UntH.last (by kernel_rfl) rfl (by kernel_rfl) (by kernel_rfl) (fun K hK => ?_)
                go_simp
                refine hK _ _ ?_
                clear hK K
                go_wp2
                go_roundw
                case rel => exact ⟨j', (j' : Int) - 1, by omega, by omega, by first | rfl | go_num, by rw [HID.out], X8⟩
                case measure => simp [RowKit.intOf]
          obtain ⟨rfl, HZ⟩ := hcut
          obtain ⟨w9, hw9⟩ : ∃ w9, w9 = wc := ⟨_, rfl⟩
          subst hw9
          have W9 := hide (bt X7.out HZ.out (Nat.le_refl _))
          obtain ⟨u0, u1, u2, u3⟩ := (HI.out.below W9.out).tb.blk.cells
          have q1 := (W9.out.cell (p := ⟨s2, i, none⟩) hs2).trans hc1
          have hix := idx_lt S L HPL.out
          have q2 := (HB1.out.below W9.out).cell (i := idx S L) (by rw [HL1.out]; exact hix)
          have hix' : ((idx S L : Nat) : Int) < (prd S : Int) := by omega
          obtain ⟨rx, hrx⟩ : ∃ x, A.getD (idx S L) false = x := ⟨_, rfl⟩
          rw [hrx] at q2 HR
          clear hrx
          generalize idx S L = ix at *
          go_wp2
          go_meet
          exact ⟨by rw [HR.out] <;> rfl, W9⟩
        · have w6' : (z.what == 6) = false := beq_eq_false_iff_ne.2 w6
          have HR : Hid (putB S z A C n = xA) := by unfold Hid putB; rw [if_neg w2, if_neg w3, if_neg w4, if_neg w5, if_neg w6, HXA.out]
          go_wp2
          go_meet
          exact ⟨by rw [HR.out] <;> rfl, Below.refl _ _⟩
      obtain ⟨rfl, HZ⟩ := hcut
      obtain ⟨w3, hw3⟩ : ∃ w3, w3 = wc := ⟨_, rfl⟩
      subst hw3
      have X3 := hide (bt X0.out HZ.out (by rw [HOB.out]; exact Nat.le_refl _))
      have y4 : Below w3.heap.size w3 (w3.alloc (.cells #[.bool (putB S z A C n)] 4)) := al (Below.refl _ _) _
      have Y4 := hide y4
      have HO3 := hide (own_below (own_below HO.out HZ.out) y4)
      have hob3 : w1.heap.size ≤ w3.heap.size := Nat.le_trans HQ.out.size HZ.out.size
      have HSN := hide (range_snoc (putB S z A C) n)
      have XX3 := hide (bt HQ.out HZ.out (Nat.le_refl _))
      clear y4
      generalize putB S z A C n = bn at *
      go_wp2_with (at_builtin; refine wpList_append_view rfl (.tmp 125) (.tmp 127) 36 rfl w1.heap.size 4 i4 (.bool false) 1 1 Try.underlying36 hi4 hz40 hz41 hz42 rfl (by decide) _ n _ rfl HO3.out ⟨w3.heap.size, 0, none⟩ 1 1 [.bool bn] rfl rfl (one_new w3 _ _) (by simp [Value.oneCell']) (by decide) (by unfold maxLen; omega) (by omega) (Nat.le_trans hob3 Y4.out.size) ?_; intro v4 w4 h1 h2; obtain ⟨ao4, cap4, hv4, _⟩ := own_shape h1; subst hv4; have H1 := hide h1; have H2 := hide h2; clear h1 h2)
      have X4 := hide (Below.trans (bt XX3.out Y4.out (Nat.le_refl _)) ((appK H2.out).below (Nat.le_trans XX3.out.size Y4.out.size) (fun b hb => (World.ownsRow.lt HO3.out b hb).1)))
      go_roundw
      case rel => exact ⟨n + 1, by omega, by go_num, by unfold Hid; rw [HSN.out, bC_snoc]; exact H1.out, X4⟩
      case measure => simp [RowKit.intOf]; omega
    · have hlt' : ¬ (n : Int) < (prd S : Int) := by omega
      obtain rfl : n = prd S := by omega
      have ho := HO.out
      obtain ⟨Lr, hLr⟩ : ∃ L, L = (List.range (prd S)).map (putB S z A C) := ⟨_, rfl⟩
      rw [← hLr] at ho
      have hll : Lr.length = prd S := by rw [hLr]; simp
      rw [← hll] at ho
      obtain ⟨g, c3, hv, hg, hb⟩ := own_bbk ho (by omega)
      have FIN : Hid (PuL S ((List.range (prd S)).map (putB S z A C)) w (.returned (.slice la (prd S) lc)) wq) := by
        rw [hll] at hv
        rw [hv, ← hLr]
        exact ⟨g, c3, rfl, Nat.le_trans (by rw [HOB.out]; exact Nat.le_trans (by have h1 := X1.out.size; have h2 := HOB.out; omega) (Nat.le_refl _)) hg, hb, by rw [HOB.out]; exact X0.out⟩
      clear ho hLr hll hv hg hb
      go_wp2
      go_ret
      exact FIN.out
end
end Go.Proofs.Ytaafeflbanoncaa
