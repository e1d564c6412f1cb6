/-
  The writer's item, a policy, Print, Right: of items that allow or deny by one test, where they go well. Condition: as in the texts before.
-/
import Derived.Test.YthgikaklcglpiaaGreatDoorP15
import Derived.Test.YthgikaklcglpiaaGreatDoorP16
namespace Go.Proofs.YthgikaklcglpiaaGreatDoor.L9
open Go.RowKit Go.Lib

def wWhen : By := [119, 104, 101, 110]
def itW (word : By) (x : IT) (s : WS) : Option WS := (wrdW word s).bind fun a => (namW x.nm a).bind fun b => (wrdW wWhen b).bind fun c => (tstW x.c c).bind fun d => othW [59] d
def itemW (x : IT) (s : WS) : Option WS := if x.k = 2 then itW wAllow x s else if x.k = 3 then itW wDeny x s else none
set_option maxRecDepth 100000 in
set_option maxHeartbeats 8000000 in
theorem witem_2 {w : World} {base wp b0 : Nat} {it : IT} {vs : List Value} {bs : List Nat} {s x : WS} (hk : it.k = 2) (hs : CondOk it.c) (h : WrA w base wp s.1 s.2) (hc : CtAt w b0 it.c vs bs) (hx : itW wAllow it s = some x) :
    Calls Tryz.prog 193 #[.pointer (some ⟨wp, 0, none⟩), .agg (itV it vs).toArray] w (PostW base wp w x) := by
  unfold itW at hx
  obtain ⟨s1, h1, hx1⟩ := Option.bind_eq_some_iff.1 hx
  obtain ⟨s2, h2, hx2⟩ := Option.bind_eq_some_iff.1 hx1
  obtain ⟨s3, h3, hx3⟩ := Option.bind_eq_some_iff.1 hx2
  obtain ⟨s4, h4, h5⟩ := Option.bind_eq_some_iff.1 hx3
  clear hx hx1 hx2 hx3
  have HCT := hide hc
  obtain ⟨a3, c3, a4, c4, a5, c5, a6, c6, rfl⟩ := hc.eight
  unfold itV
  rw [hk]
  show Calls Tryz.prog 193 #[.pointer (some ⟨wp, 0, none⟩), .agg #[.int .i64 2, .string ⟨it.nm.toArray⟩, .int .i64 it.c.k, .string ⟨it.c.nm.toArray⟩, .string ⟨it.c.tx.toArray⟩, .slice a3 it.c.pre.length c3, .slice a4 it.c.sp.length c4, .slice a5 it.c.ns.length c5, .slice a6 it.c.kids.length c6, .int .i64 it.c.p, .int .i64 it.p]] w (PostW base wp w x)
  have XW := hide (show Below w.heap.size w (w.alloc (.cells #[.int .i64 2, .string ⟨it.nm.toArray⟩, .int .i64 it.c.k, .string ⟨it.c.nm.toArray⟩, .string ⟨it.c.tx.toArray⟩, .slice a3 it.c.pre.length c3, .slice a4 it.c.sp.length c4, .slice a5 it.c.ns.length c5, .slice a6 it.c.kids.length c6, .int .i64 it.c.p, .int .i64 it.p] 71)) from al (Below.refl _ _) _)
  have HB := hide (heap_alloc_new w (.cells #[.int .i64 2, .string ⟨it.nm.toArray⟩, .int .i64 it.c.k, .string ⟨it.c.nm.toArray⟩, .string ⟨it.c.tx.toArray⟩, .slice a3 it.c.pre.length c3, .slice a4 it.c.sp.length c4, .slice a5 it.c.ns.length c5, .slice a6 it.c.kids.length c6, .int .i64 it.c.p, .int .i64 it.p] 71))
  have RW := hide (h.below XW.out)
  have HCW := hide (HCT.out.below XW.out)
  have HM := hide must_ok
  have HT := hide (iWord_any 2 (by decide) (by decide))
  have H1 := hide (word_ok RW.out h1)
  rw [show iWord 2 = wAllow from rfl] at HT
  unfold wAllow at H1 HT
  have H2 := hide (fun V (r : WrA V base wp s1.1 s1.2) => name_ok r h2)
  have H3 := hide (fun V (r : WrA V base wp s2.1 s2.2) => word_ok r h3)
  have H4 := hide (fun V (r : WrA V base wp s3.1 s3.2) (k : CtAt V b0 it.c [.int .i64 it.c.k, .string ⟨it.c.nm.toArray⟩, .string ⟨it.c.tx.toArray⟩, .slice a3 it.c.pre.length c3, .slice a4 it.c.sp.length c4, .slice a5 it.c.ns.length c5, .slice a6 it.c.kids.length c6, .int .i64 it.c.p] bs) => cond_leaf (deep := 1) hs (by decide) r k h4)
  have H5 := hide (fun V (r : WrA V base wp s4.1 s4.2) => other_ok r h5)
  unfold wWhen at H3
  clear h1 h2 h3 h4 h5 hs h hc hk HCT
  generalize it.nm = inm at *
  generalize it.p = ip at *
  generalize it.c = c at *
  obtain ⟨P, hP⟩ : ∃ P, P = w.heap.size := ⟨_, rfl⟩
  go_enter Tryz.func193, Tryz.ntmps193
  go_upto_region 1 with fail
  rw [← hP] at HB ⊢
  clear hP
  generalize w.alloc (.cells #[.int .i64 2, .string ⟨inm.toArray⟩, .int .i64 c.k, .string ⟨c.nm.toArray⟩, .string ⟨c.tx.toArray⟩, .slice a3 c.pre.length c3, .slice a4 c.sp.length c4, .slice a5 c.ns.length c5, .slice a6 c.kids.length c6, .int .i64 c.p, .int .i64 ip] 71) = W at *
  have q0 : W.cell? ⟨P, 0, none⟩ = some (.int .i64 2) := by rw [cell_of_row _ _ _ _ _ _ HB.out]; rfl
  go_upto_region 4 with (first | (go_at_call 247; refine (HT.out _).mono ?_; rintro e w1 ⟨rfl, hw⟩; have hw2 := hw.symm; clear hw; subst hw2) | (go_at_call 192; refine (HM.out _).mono ?_; rintro e w2 ⟨rfl, hw⟩; have hw2 := hw.symm; clear hw; subst hw2) | (go_at_call 248; refine H1.out.mono ?_; rintro e w3 ⟨rfl, r3, x3⟩; have R3 := hide r3; have X3 := hide x3; clear r3 x3))
  clear q0 H1 HT
  have HB3 := hide (X3.out.box HB.out (by decide) (RW.out.ne HB.out (by decide)))
  have HC3 := hide (HCW.out.kpo RW.out X3.out)
  have XX3 := hide ((KpO.of_below (base := base) (wp := wp) XW.out).trans X3.out)
  clear HB HCW RW XW X3
  have q1 : w3.cell? ⟨P, 1, none⟩ = some (.string ⟨inm.toArray⟩) := by rw [cell_of_row _ _ _ _ _ _ HB3.out]; rfl
  go_upto_region 5 with (go_at_call 249; refine (H2.out _ R3.out).mono ?_; rintro e w4 ⟨rfl, r4, x4⟩; have R4 := hide r4; have X4 := hide x4; clear r4 x4)
  clear q1 H2
  have HB4 := hide (X4.out.box HB3.out (by decide) (R3.out.ne HB3.out (by decide)))
  have HC4 := hide (HC3.out.kpo R3.out X4.out)
  have XX4 := hide (XX3.out.trans X4.out)
  clear HB3 HC3 XX3 R3 X4
  have q0 : w4.cell? ⟨P, 0, none⟩ = some (.int .i64 2) := by rw [cell_of_row _ _ _ _ _ _ HB4.out]; rfl
  go_upto_region 8 with (go_at_call 248; refine (H3.out _ R4.out).mono ?_; rintro e w5 ⟨rfl, r5, x5⟩; have R5 := hide r5; have X5 := hide x5; clear r5 x5)
  clear q0 H3
  have HB5 := hide (X5.out.box HB4.out (by decide) (R4.out.ne HB4.out (by decide)))
  have HC5 := hide (HC4.out.kpo R4.out X5.out)
  have XX5 := hide (XX4.out.trans X5.out)
  clear HB4 HC4 XX4 R4 X5
  obtain ⟨q0, q1, q2, q3, q4, q5, q6, q7, q8, q9, q10⟩ := ld11 HB5.out
  have HCC := hide (H4.out _ R5.out HC5.out)
  go_upto_region 9 with (go_at_call 251; refine HCC.out.mono ?_; rintro e w6 ⟨rfl, r6, x6⟩; have R6 := hide r6; have X6 := hide x6; clear r6 x6)
  clear q0 q1 q2 q3 q4 q5 q6 q7 q8 q9 q10 H4 HCC
  go_wp2_with (go_at_call 250; refine (H5.out _ R6.out).mono ?_; rintro e w7 ⟨rfl, r7, x7⟩; have R7 := hide r7; have X7 := hide x7; clear r7 x7)
  go_end0
  exact ⟨rfl, R7.out, XX5.out.trans (X6.out.trans X7.out)⟩
set_option maxRecDepth 100000 in
set_option maxHeartbeats 8000000 in
theorem witem_3 {w : World} {base wp b0 : Nat} {it : IT} {vs : List Value} {bs : List Nat} {s x : WS} (hk : it.k = 3) (hs : CondOk it.c) (h : WrA w base wp s.1 s.2) (hc : CtAt w b0 it.c vs bs) (hx : itW wDeny it s = some x) :
    Calls Tryz.prog 193 #[.pointer (some ⟨wp, 0, none⟩), .agg (itV it vs).toArray] w (PostW base wp w x) := by
  unfold itW at hx
  obtain ⟨s1, h1, hx1⟩ := Option.bind_eq_some_iff.1 hx
  obtain ⟨s2, h2, hx2⟩ := Option.bind_eq_some_iff.1 hx1
  obtain ⟨s3, h3, hx3⟩ := Option.bind_eq_some_iff.1 hx2
  obtain ⟨s4, h4, h5⟩ := Option.bind_eq_some_iff.1 hx3
  clear hx hx1 hx2 hx3
  have HCT := hide hc
  obtain ⟨a3, c3, a4, c4, a5, c5, a6, c6, rfl⟩ := hc.eight
  unfold itV
  rw [hk]
  show Calls Tryz.prog 193 #[.pointer (some ⟨wp, 0, none⟩), .agg #[.int .i64 3, .string ⟨it.nm.toArray⟩, .int .i64 it.c.k, .string ⟨it.c.nm.toArray⟩, .string ⟨it.c.tx.toArray⟩, .slice a3 it.c.pre.length c3, .slice a4 it.c.sp.length c4, .slice a5 it.c.ns.length c5, .slice a6 it.c.kids.length c6, .int .i64 it.c.p, .int .i64 it.p]] w (PostW base wp w x)
  have XW := hide (show Below w.heap.size w (w.alloc (.cells #[.int .i64 3, .string ⟨it.nm.toArray⟩, .int .i64 it.c.k, .string ⟨it.c.nm.toArray⟩, .string ⟨it.c.tx.toArray⟩, .slice a3 it.c.pre.length c3, .slice a4 it.c.sp.length c4, .slice a5 it.c.ns.length c5, .slice a6 it.c.kids.length c6, .int .i64 it.c.p, .int .i64 it.p] 71)) from al (Below.refl _ _) _)
  have HB := hide (heap_alloc_new w (.cells #[.int .i64 3, .string ⟨it.nm.toArray⟩, .int .i64 it.c.k, .string ⟨it.c.nm.toArray⟩, .string ⟨it.c.tx.toArray⟩, .slice a3 it.c.pre.length c3, .slice a4 it.c.sp.length c4, .slice a5 it.c.ns.length c5, .slice a6 it.c.kids.length c6, .int .i64 it.c.p, .int .i64 it.p] 71))
  have RW := hide (h.below XW.out)
  have HCW := hide (HCT.out.below XW.out)
  have HM := hide must_ok
  have HT := hide (iWord_any 3 (by decide) (by decide))
  have H1 := hide (word_ok RW.out h1)
  rw [show iWord 3 = wDeny from rfl] at HT
  unfold wDeny at H1 HT
  have H2 := hide (fun V (r : WrA V base wp s1.1 s1.2) => name_ok r h2)
  have H3 := hide (fun V (r : WrA V base wp s2.1 s2.2) => word_ok r h3)
  have H4 := hide (fun V (r : WrA V base wp s3.1 s3.2) (k : CtAt V b0 it.c [.int .i64 it.c.k, .string ⟨it.c.nm.toArray⟩, .string ⟨it.c.tx.toArray⟩, .slice a3 it.c.pre.length c3, .slice a4 it.c.sp.length c4, .slice a5 it.c.ns.length c5, .slice a6 it.c.kids.length c6, .int .i64 it.c.p] bs) => cond_leaf (deep := 1) hs (by decide) r k h4)
  have H5 := hide (fun V (r : WrA V base wp s4.1 s4.2) => other_ok r h5)
  unfold wWhen at H3
  clear h1 h2 h3 h4 h5 hs h hc hk HCT
  generalize it.nm = inm at *
  generalize it.p = ip at *
  generalize it.c = c at *
  obtain ⟨P, hP⟩ : ∃ P, P = w.heap.size := ⟨_, rfl⟩
  go_enter Tryz.func193, Tryz.ntmps193
  go_upto_region 1 with fail
  rw [← hP] at HB ⊢
  clear hP
  generalize w.alloc (.cells #[.int .i64 3, .string ⟨inm.toArray⟩, .int .i64 c.k, .string ⟨c.nm.toArray⟩, .string ⟨c.tx.toArray⟩, .slice a3 c.pre.length c3, .slice a4 c.sp.length c4, .slice a5 c.ns.length c5, .slice a6 c.kids.length c6, .int .i64 c.p, .int .i64 ip] 71) = W at *
  have q0 : W.cell? ⟨P, 0, none⟩ = some (.int .i64 3) := by rw [cell_of_row _ _ _ _ _ _ HB.out]; rfl
  go_upto_region 4 with (first | (go_at_call 247; refine (HT.out _).mono ?_; rintro e w1 ⟨rfl, hw⟩; have hw2 := hw.symm; clear hw; subst hw2) | (go_at_call 192; refine (HM.out _).mono ?_; rintro e w2 ⟨rfl, hw⟩; have hw2 := hw.symm; clear hw; subst hw2) | (go_at_call 248; refine H1.out.mono ?_; rintro e w3 ⟨rfl, r3, x3⟩; have R3 := hide r3; have X3 := hide x3; clear r3 x3))
  clear q0 H1 HT
  have HB3 := hide (X3.out.box HB.out (by decide) (RW.out.ne HB.out (by decide)))
  have HC3 := hide (HCW.out.kpo RW.out X3.out)
  have XX3 := hide ((KpO.of_below (base := base) (wp := wp) XW.out).trans X3.out)
  clear HB HCW RW XW X3
  have q1 : w3.cell? ⟨P, 1, none⟩ = some (.string ⟨inm.toArray⟩) := by rw [cell_of_row _ _ _ _ _ _ HB3.out]; rfl
  go_upto_region 5 with (go_at_call 249; refine (H2.out _ R3.out).mono ?_; rintro e w4 ⟨rfl, r4, x4⟩; have R4 := hide r4; have X4 := hide x4; clear r4 x4)
  clear q1 H2
  have HB4 := hide (X4.out.box HB3.out (by decide) (R3.out.ne HB3.out (by decide)))
  have HC4 := hide (HC3.out.kpo R3.out X4.out)
  have XX4 := hide (XX3.out.trans X4.out)
  clear HB3 HC3 XX3 R3 X4
  have q0 : w4.cell? ⟨P, 0, none⟩ = some (.int .i64 3) := by rw [cell_of_row _ _ _ _ _ _ HB4.out]; rfl
  go_upto_region 8 with (go_at_call 248; refine (H3.out _ R4.out).mono ?_; rintro e w5 ⟨rfl, r5, x5⟩; have R5 := hide r5; have X5 := hide x5; clear r5 x5)
  clear q0 H3
  have HB5 := hide (X5.out.box HB4.out (by decide) (R4.out.ne HB4.out (by decide)))
  have HC5 := hide (HC4.out.kpo R4.out X5.out)
  have XX5 := hide (XX4.out.trans X5.out)
  clear HB4 HC4 XX4 R4 X5
  obtain ⟨q0, q1, q2, q3, q4, q5, q6, q7, q8, q9, q10⟩ := ld11 HB5.out
  have HCC := hide (H4.out _ R5.out HC5.out)
  go_upto_region 9 with (go_at_call 251; refine HCC.out.mono ?_; rintro e w6 ⟨rfl, r6, x6⟩; have R6 := hide r6; have X6 := hide x6; clear r6 x6)
  clear q0 q1 q2 q3 q4 q5 q6 q7 q8 q9 q10 H4 HCC
  go_wp2_with (go_at_call 250; refine (H5.out _ R6.out).mono ?_; rintro e w7 ⟨rfl, r7, x7⟩; have R7 := hide r7; have X7 := hide x7; clear r7 x7)
  go_end0
  exact ⟨rfl, R7.out, XX5.out.trans (X6.out.trans X7.out)⟩
theorem witem_ok {w : World} {base wp b0 : Nat} {it : IT} {vs : List Value} {bs : List Nat} {s x : WS} (hs : CondOk it.c) (h : WrA w base wp s.1 s.2) (hc : CtAt w b0 it.c vs bs) (hx : itemW it s = some x) :
    Calls Tryz.prog 193 #[.pointer (some ⟨wp, 0, none⟩), .agg (itV it vs).toArray] w (PostW base wp w x) := by
  unfold itemW at hx
  split at hx
  · rename_i h2
    exact witem_2 h2 hs h hc hx
  · split at hx
    · rename_i h3
      exact witem_3 h3 hs h hc hx
    · cases hx
def polW : List IT → WS → Option WS
  | [], s => some s
  | x :: l, s => (itemW x s).bind fun a => polW l a
set_option maxRecDepth 100000 in
set_option maxHeartbeats 8000000 in
theorem written_ok {w : World} {b0 : Nat} {L : List IT} {v : Value} {cs : List Value} {bs : List Nat} {y : WS} (hl : L.length ≤ 100) (hs : ∀ x ∈ L, CondOk x.c) (h : PolA w b0 L v cs bs) (hx : polW L ([], true) = some y) :
    Calls Tryz.prog 144 #[.agg #[v]] w fun e w' => e = .returned (.string ⟨y.1.toArray⟩) ∧ Below w.heap.size w w' := by
  obtain ⟨ao, cp, hv, hav⟩ := own_shape h.row
  subst hv
  have hll : (L.length : Int) ≤ 100 := by omega
  have HLL := hide hl
  have XW := hide (show Below w.heap.size w (w.alloc (.cells #[.slice ao L.length cp] 61)) from al (Below.refl _ _) _)
  have HB := hide (heap_alloc_new w (.cells #[.slice ao L.length cp] 61))
  have HPO := hide (h.below XW.out)
  have HM := hide must_ok
  have HAV := hide hav
  have HSS := hide hs
  have HXX := hide hx
  clear hl hs h hx hav
  obtain ⟨P, hP⟩ : ∃ P, P = w.heap.size := ⟨_, rfl⟩
  go_enter Tryz.func144, Tryz.ntmps144
  go_upto_region 1 with fail
  rw [← hP] at HB ⊢
  have HPP := hide hP
  clear hP
  generalize w.alloc (.cells #[.slice ao L.length cp] 61) = W at *
  have q0 : W.cell? ⟨P, 0, none⟩ = some (.slice ao L.length cp) := by rw [cell_of_row _ _ _ _ _ _ HB.out]; rfl
  go_upto_region 2 with (go_at_call 192; refine (HM.out _).mono ?_; rintro e w2 ⟨rfl, hw⟩; have hw2 := hw.symm; clear hw; subst hw2)
  clear q0 hll
  have RW := hide (WrA.new W)
  have XQ : Hid (Below W.heap.size W (W.alloc (.cells #[.pointer none, .slice none 0 0, .bool true] 211))) := al (Below.refl _ _) _
  have HB2 := hide ((XQ.out.block P (lt_of_block HB.out)).trans HB.out)
  have HPO2 := hide (HPO.out.below XQ.out)
  have XX := hide (bt XW.out XQ.out (Nat.le_refl _))
  go_upto_region 3 with fail
  obtain ⟨Q, hQ⟩ : ∃ Q, Q = W.heap.size := ⟨_, rfl⟩
  rw [← hQ] at RW ⊢
  have HQ : Hid (w.heap.size ≤ Q) := by have := XW.out.size; unfold Hid; omega
  clear hQ HB HPO XW XQ
  generalize W.alloc (.cells #[.pointer none, .slice none 0 0, .bool true] 211) = W2 at *
  have q0 : W2.cell? ⟨P, 0, none⟩ = some (.slice ao L.length cp) := by rw [cell_of_row _ _ _ _ _ _ HB2.out]; rfl
  go_wp2
  clear q0
  go_loopg [5, 15] (L.length + 1) (fun gg x5 x15 wr => ∃ (k : Nat) (z : WS), x15 = .int .i64 (k : Nat) ∧ k ≤ L.length ∧ Hid (polW (L.drop k) z = some y) ∧ Hid (WrA wr Q Q z.1 z.2) ∧ Hid (KpO 5 Q Q W2 wr) ∧ L.length - k < gg)
  case atStart => exact ⟨0, ([], true), rfl, by omega, HXX, RW, hide (KpO.refl _ _), by omega⟩
  case round =>
    obtain ⟨k, z, rfl, hk, HP, RR, XR, hg⟩ := hrel
    have HG := hide hg
    clear hg HXX
    by_cases hlt : k < L.length
    · have hlt' : (k : Int) < (L.length : Int) := by omega
      obtain ⟨it, hdd⟩ : ∃ it, it = L[k] := ⟨_, rfl⟩
      have HME : Hid (it ∈ L) := by
        unfold Hid
        rw [hdd]
        exact List.getElem_mem hlt
      have HDR := HP.out
      rw [List.drop_eq_getElem_cons hlt, ← hdd] at HDR
      obtain ⟨z1, hz1, hx1⟩ := Option.bind_eq_some_iff.1 HDR
      have HX1 := hide hx1
      have HRR := hide (XR.out.ownS HPO2.out.row (by decide) RW.out)
      obtain ⟨us, bs2, hcu, hcell⟩ := HPO2.out.its.get k hlt
      rw [← hdd] at hcu hcell
      have HCU := hide (hcu.kpo RW.out XR.out)
      obtain ⟨d3, e3, d4, e4, d5, e5, d6, e6, rfl⟩ := hcu.eight
      have HZ1 := hide hz1
      obtain ⟨g, rfl⟩ : ∃ g, ao = some ⟨g, 0, none⟩ := HAV.out (by omega)
      have HK := hide hlt
      have hcl : ∀ r, r < 11 → wr.cell? ⟨g, k * 11 + r, none⟩ = [.int .i64 it.k, .string ⟨it.nm.toArray⟩, .int .i64 it.c.k, .string ⟨it.c.nm.toArray⟩, .string ⟨it.c.tx.toArray⟩, .slice d3 it.c.pre.length e3, .slice d4 it.c.sp.length e4, .slice d5 it.c.ns.length e5, .slice d6 it.c.kids.length e6, .int .i64 it.c.p, .int .i64 it.p][r]? := fun r hr => by
        rw [World.ownsRow.cellAt HRR.out (k * 11 + r) (by omega), hcell r hr]
        rfl
      have q0 := hcl 0 (by omega)
      have q1 := hcl 1 (by omega)
      have q2 := hcl 2 (by omega)
      have q3 := hcl 3 (by omega)
      have q4 := hcl 4 (by omega)
      have q5 := hcl 5 (by omega)
      have q6 := hcl 6 (by omega)
      have q7 := hcl 7 (by omega)
      have q8 := hcl 8 (by omega)
      have q9 := hcl 9 (by omega)
      have q10 := hcl 10 (by omega)
      simp only [List.getElem?_cons_zero, List.getElem?_cons_succ, Nat.add_zero] at q0 q1 q2 q3 q4 q5 q6 q7 q8 q9 q10
      clear hcl hcell HRR hcu HDR hx1 hz1 HP hdd hlt
      have HSB := hide (heap_alloc_new wr (.cells #[.int .i64 it.k, .string ⟨it.nm.toArray⟩, .int .i64 it.c.k, .string ⟨it.c.nm.toArray⟩, .string ⟨it.c.tx.toArray⟩, .slice d3 it.c.pre.length e3, .slice d4 it.c.sp.length e4, .slice d5 it.c.ns.length e5, .slice d6 it.c.kids.length e6, .int .i64 it.c.p, .int .i64 it.p] 71))
      have XK : Hid (Below wr.heap.size wr (wr.alloc (.cells #[.int .i64 it.k, .string ⟨it.nm.toArray⟩, .int .i64 it.c.k, .string ⟨it.c.nm.toArray⟩, .string ⟨it.c.tx.toArray⟩, .slice d3 it.c.pre.length e3, .slice d4 it.c.sp.length e4, .slice d5 it.c.ns.length e5, .slice d6 it.c.kids.length e6, .int .i64 it.c.p, .int .i64 it.p] 71))) := al (Below.refl _ _) _
      have RK := hide (RR.out.below XK.out)
      have XX2 := hide (XR.out.trans (KpO.of_below XK.out))
      have HIT := hide (witem_ok (HSS.out it HME.out) RK.out (HCU.out.below XK.out) HZ1.out)
      unfold itV at HIT
      go_upto_region 6 with fail
      clear q0 q1 q2 q3 q4 q5 q6 q7 q8 q9 q10 HCU RR XR XK
      obtain ⟨B, hB⟩ : ∃ B, B = wr.heap.size := ⟨_, rfl⟩
      rw [← hB] at HSB ⊢
      clear hB
      generalize wr.alloc (.cells #[.int .i64 it.k, .string ⟨it.nm.toArray⟩, .int .i64 it.c.k, .string ⟨it.c.nm.toArray⟩, .string ⟨it.c.tx.toArray⟩, .slice d3 it.c.pre.length e3, .slice d4 it.c.sp.length e4, .slice d5 it.c.ns.length e5, .slice d6 it.c.kids.length e6, .int .i64 it.c.p, .int .i64 it.p] 71) = wk at *
      obtain ⟨q0, q1, q2, q3, q4, q5, q6, q7, q8, q9, q10⟩ := ld11 HSB.out
      have fw2 : IntKind.i64.wrap ((k : Int) + 1) = ((k + 1 : Nat) : Int) := by have := HLL.out; have := HK.out; simp [IntKind.wrap, IntKind.bits, IntKind.signed]; omega
      go_wp2_with (go_at_call 193; refine HIT.out.mono ?_; rintro e w3 ⟨rfl, r3, x3⟩; have R3 := hide r3; have X3 := hide (XX2.out.trans x3); clear r3 x3)
      go_roundg (L.length - (k + 1) + 1)
      case measure => have := HG.out; have := HK.out; omega
      case rel => exact ⟨k + 1, z1, by first | rfl | (rw [show wrap64 ((k : Int) + 1) = ((k + 1 : Nat) : Int) from fw2]), by have := HK.out; omega, HX1, R3, X3, by omega⟩
    · have hlt' : ¬ (k : Int) < (L.length : Int) := by omega
      have HF := HP.out
      rw [List.drop_eq_nil_of_le (by omega)] at HF
      obtain rfl : z = y := Option.some.inj HF
      have HST := hide RR.out.string
      have XXR := hide (XX.out.trans ((KpO.to_below XR.out (Nat.le_refl _) RW.out.le).mono HQ.out))
      clear HF HP hlt
      go_wp2_with (go_at_call 194; refine HST.out.mono ?_; rintro e w3 ⟨rfl, x3⟩; have X3 := hide (XXR.out.trans (x3.mono HQ.out)); clear x3)
      go_ret
      exact ⟨rfl, X3.out⟩
theorem print_ok {w : World} {b0 : Nat} {L : List IT} {v : Value} {cs : List Value} {bs : List Nat} {y : WS} (hl : L.length ≤ 100) (hs : ∀ x ∈ L, CondOk x.c) (h : PolA w b0 L v cs bs) (hx : polW L ([], true) = some y) :
    Calls Tryz.prog 98 #[.agg #[v]] w fun e w' => e = .returned (.tuple #[.string ⟨y.1.toArray⟩, .int .i64 0]) ∧ Below w.heap.size w w' := by
  obtain ⟨ao, cp, hv, _⟩ := own_shape h.row
  exact print_by hv false y.1 (fun V x => written_ok hl hs (h.below x) hx)
set_option maxRecDepth 100000 in
theorem right_ok {w : World} {b0 : Nat} {L : List IT} {v : Value} {cs : List Value} {bs : List Nat} {y : WS} (hl : L.length ≤ 100) (hs : ∀ x ∈ L, CondOk x.c) (h : PolA w b0 L v cs bs) (hx : polW L ([], true) = some y) :
    Calls Tryz.prog 54 #[.agg #[v]] w fun e w' => e = .returned (.bool true) ∧ Below w.heap.size w w' := by
  obtain ⟨ao, cp, hv, _⟩ := own_shape h.row
  subst hv
  have XW := hide (show Below w.heap.size w (w.alloc (.cells #[.slice ao L.length cp] 61)) from al (Below.refl _ _) _)
  have HB := hide (heap_alloc_new w (.cells #[.slice ao L.length cp] 61))
  have HP := hide (print_ok hl hs (h.below XW.out) hx)
  clear hl hs h hx
  generalize L.length = n at *
  obtain ⟨P, hP⟩ : ∃ P, P = w.heap.size := ⟨_, rfl⟩
  go_enter Tryz.func54, Tryz.ntmps54
  go_upto_region 1 with fail
  rw [← hP] at HB ⊢
  clear hP
  generalize w.alloc (.cells #[.slice ao n cp] 61) = W at *
  have q0 : W.cell? ⟨P, 0, none⟩ = some (.slice ao n cp) := by rw [cell_of_row _ _ _ _ _ _ HB.out]; rfl
  go_wp2_with (go_at_call 98; refine HP.out.mono ?_; rintro e w2 ⟨rfl, x2⟩; have X2 := hide (bt XW.out x2 (Nat.le_refl _)); clear x2)
  go_ret
  exact ⟨rfl, X2.out⟩
end Go.Proofs.YthgikaklcglpiaaGreatDoor.L9
