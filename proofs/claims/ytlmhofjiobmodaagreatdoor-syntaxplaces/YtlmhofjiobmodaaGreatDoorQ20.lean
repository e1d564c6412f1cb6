/-
  The writer's cond of one kind, where it goes well. Condition: what stands in it is written so.
-/
import Derived.Test.YtlmhofjiobmodaaGreatDoorQ19
namespace Go.Proofs.YtlmhofjiobmodaaGreatDoor
open Go.RowKit Go.Lib

set_option maxRecDepth 100000 in
set_option maxHeartbeats 8000000 in
theorem cond_one {w : World} {base wp b0 deep place : Nat} {c : CT} {vs : List Value} {bs : List Nat} {s x : WS} {M : WS → Option WS} (hk : c.k = 1) (hdp : deep ≤ 16) (hp : place ≤ 3) (hno : NoM c) (h : WrA w base wp s.1 s.2) (hc : CtAt w b0 c vs bs)
    (hM : ∀ (V : World) (a b : WS), WrA V base wp a.1 a.2 → CtAt V b0 c vs bs → M a = some b → Calls Tryz.prog 141 #[.pointer (some ⟨wp, 0, none⟩), .agg vs.toArray] V (PostW base wp V b))
    (hx0 : ((if 3 < place then othW [40] s else some s).bind fun a => (M a).bind fun b => if 3 < place then othW [41] b else some b) = some x) :
    Calls Tryz.prog 106 #[.pointer (some ⟨wp, 0, none⟩), .agg vs.toArray, .int .i64 (place : Nat), .int .i64 (deep : Nat)] w (PostW base wp w x) := by
  obtain ⟨a, ha, hx1⟩ := Option.bind_eq_some_iff.1 hx0
  obtain ⟨b, hb, hx⟩ := Option.bind_eq_some_iff.1 hx1
  clear hx0 hx1
  have HMN := hide (fun V (y : Below w.heap.size w V) => more_no (hc.below y) hno)
  have HCT := hide hc
  obtain ⟨a3, c3, a4, c4, a5, c5, a6, c6, rfl⟩ := hc.eight
  rw [hk] at HMN HCT hM ⊢
  have XW := hide (show Below w.heap.size w (w.alloc (.cells #[.int .i64 1, .string ⟨c.nm.toArray⟩, .string ⟨c.tx.toArray⟩, .slice a3 c.pre.length c3, .slice a4 c.sp.length c4, .slice a5 c.ns.length c5, .slice a6 c.kids.length c6, .int .i64 c.p] 60)) from al (Below.refl _ _) _)
  have HB := hide (heap_alloc_new w (.cells #[.int .i64 1, .string ⟨c.nm.toArray⟩, .string ⟨c.tx.toArray⟩, .slice a3 c.pre.length c3, .slice a4 c.sp.length c4, .slice a5 c.ns.length c5, .slice a6 c.kids.length c6, .int .i64 c.p] 60))
  have HMM := hide (fun V r k => hM V a b r k hb)
  have RW := hide (h.below XW.out)
  have HCW := hide (HCT.out.below XW.out)
  have HMW := hide (HMN.out _ XW.out)
  have HM := hide must_ok
  have HH : Hid (∀ V, Calls Tryz.prog 138 #[.int .i64 1] V fun e w' => e = .returned (.int .i64 3) ∧ Below V.heap.size V w') := fun V => holds_any 1 V
  have hde : (deep : Int) ≤ 16 := by omega
  clear hc hno hM hb h HCT HMN hdp
  generalize c.nm = nm at *
  generalize c.tx = tx at *
  generalize c.p = cp at *
  generalize c.pre.length = npre at *
  generalize c.sp.length = nsp at *
  generalize c.ns.length = nns at *
  generalize c.kids.length = nkids at *
  obtain ⟨P, hP⟩ : ∃ P, P = w.heap.size := ⟨_, rfl⟩
  go_enter Tryz.func106, Tryz.ntmps106
  go_upto_region 1 with fail
  rw [← hP] at HB ⊢
  clear hP
  generalize w.alloc (.cells #[.int .i64 1, .string ⟨nm.toArray⟩, .string ⟨tx.toArray⟩, .slice a3 npre c3, .slice a4 nsp c4, .slice a5 nns c5, .slice a6 nkids c6, .int .i64 cp] 60) = W at *
  obtain ⟨q0, q1, q2, q3, q4, q5, q6, q7⟩ := ld8 HB.out
  go_upto_region 2 with (first | (go_at_call 137; refine HMW.out.mono ?_; rintro e w1 ⟨rfl, x1⟩; have X1 := hide x1; clear x1) | (go_at_call 65; refine (HM.out _).mono ?_; rintro e w2 ⟨rfl, hw⟩; have hw2 := hw.symm; clear hw; subst hw2))
  clear q0 q1 q2 q3 q4 q5 q6 q7 HMW hde
  have HB1 := hide ((X1.out.block P (lt_of_block HB.out)).trans HB.out)
  have R1 := hide (RW.out.below X1.out)
  have HC1 := hide (HCW.out.below X1.out)
  have XX1 := hide (bt XW.out X1.out (Nat.le_refl _))
  clear HB RW HCW XW X1
  have q0 : w1.cell? ⟨P, 0, none⟩ = some (.int .i64 1) := by rw [cell_of_row _ _ _ _ _ _ HB1.out]; rfl
  go_upto_region 3 with (go_at_call 138; refine (HH.out _).mono ?_; rintro e w2 ⟨rfl, x2⟩; have X2 := hide x2; clear x2)
  clear q0
  have HB2 := hide ((X2.out.block P (lt_of_block HB1.out)).trans HB1.out)
  have R2 := hide (R1.out.below X2.out)
  have HC2 := hide (HC1.out.below X2.out)
  have XX2 := hide (KpO.of_below (base := base) (wp := wp) (bt XX1.out X2.out (Nat.le_refl _)))
  clear HB1 R1 HC1 XX1 X2 HH
  by_cases hbr : 3 < place
  · exact absurd hbr (by omega)
  · rw [if_neg hbr] at ha hx
    have hbi : ¬ (3 : Int) < (place : Int) := by omega
    obtain rfl := Option.some.inj ha
    obtain rfl := Option.some.inj hx
    clear ha hx hbr
    have R3 := hide R2.out
    have HB3 := hide HB2.out
    have HC3 := hide HC2.out
    have XX3 := hide XX2.out
    clear R2 HB2 HC2 XX2
    go_upto_region 5 with fail
    obtain ⟨q0, q1, q2, q3, q4, q5, q6, q7⟩ := ld8 HB3.out
    have HMC := hide (HMM.out _ R3.out HC3.out)
    go_upto_region 14 with (go_at_call 141; refine HMC.out.mono ?_; rintro e w5 ⟨rfl, r5, x5⟩; have R5 := hide r5; have X5 := hide x5; clear r5 x5)
    clear q0 q1 q2 q3 q4 q5 q6 q7 HMC
    go_wp2
    go_end0
    exact ⟨rfl, R5.out, XX3.out.trans X5.out⟩
set_option maxRecDepth 100000 in
set_option maxHeartbeats 8000000 in
theorem cond_two {w : World} {base wp b0 deep place : Nat} {c : CT} {vs : List Value} {bs : List Nat} {s x : WS} {M : WS → Option WS} (hk : c.k = 2) (hdp : deep ≤ 16) (hp : place ≤ 3) (hno : NoM c) (h : WrA w base wp s.1 s.2) (hc : CtAt w b0 c vs bs)
    (hM : ∀ (V : World) (a b : WS), WrA V base wp a.1 a.2 → CtAt V b0 c vs bs → M a = some b → Calls Tryz.prog 141 #[.pointer (some ⟨wp, 0, none⟩), .agg vs.toArray] V (PostW base wp V b))
    (hx0 : ((if 3 < place then othW [40] s else some s).bind fun a => (M a).bind fun b => if 3 < place then othW [41] b else some b) = some x) :
    Calls Tryz.prog 106 #[.pointer (some ⟨wp, 0, none⟩), .agg vs.toArray, .int .i64 (place : Nat), .int .i64 (deep : Nat)] w (PostW base wp w x) := by
  obtain ⟨a, ha, hx1⟩ := Option.bind_eq_some_iff.1 hx0
  obtain ⟨b, hb, hx⟩ := Option.bind_eq_some_iff.1 hx1
  clear hx0 hx1
  have HMN := hide (fun V (y : Below w.heap.size w V) => more_no (hc.below y) hno)
  have HCT := hide hc
  obtain ⟨a3, c3, a4, c4, a5, c5, a6, c6, rfl⟩ := hc.eight
  rw [hk] at HMN HCT hM ⊢
  have XW := hide (show Below w.heap.size w (w.alloc (.cells #[.int .i64 2, .string ⟨c.nm.toArray⟩, .string ⟨c.tx.toArray⟩, .slice a3 c.pre.length c3, .slice a4 c.sp.length c4, .slice a5 c.ns.length c5, .slice a6 c.kids.length c6, .int .i64 c.p] 60)) from al (Below.refl _ _) _)
  have HB := hide (heap_alloc_new w (.cells #[.int .i64 2, .string ⟨c.nm.toArray⟩, .string ⟨c.tx.toArray⟩, .slice a3 c.pre.length c3, .slice a4 c.sp.length c4, .slice a5 c.ns.length c5, .slice a6 c.kids.length c6, .int .i64 c.p] 60))
  have HMM := hide (fun V r k => hM V a b r k hb)
  have RW := hide (h.below XW.out)
  have HCW := hide (HCT.out.below XW.out)
  have HMW := hide (HMN.out _ XW.out)
  have HM := hide must_ok
  have HH : Hid (∀ V, Calls Tryz.prog 138 #[.int .i64 2] V fun e w' => e = .returned (.int .i64 3) ∧ Below V.heap.size V w') := fun V => holds_any 2 V
  have hde : (deep : Int) ≤ 16 := by omega
  clear hc hno hM hb h HCT HMN hdp
  generalize c.nm = nm at *
  generalize c.tx = tx at *
  generalize c.p = cp at *
  generalize c.pre.length = npre at *
  generalize c.sp.length = nsp at *
  generalize c.ns.length = nns at *
  generalize c.kids.length = nkids at *
  obtain ⟨P, hP⟩ : ∃ P, P = w.heap.size := ⟨_, rfl⟩
  go_enter Tryz.func106, Tryz.ntmps106
  go_upto_region 1 with fail
  rw [← hP] at HB ⊢
  clear hP
  generalize w.alloc (.cells #[.int .i64 2, .string ⟨nm.toArray⟩, .string ⟨tx.toArray⟩, .slice a3 npre c3, .slice a4 nsp c4, .slice a5 nns c5, .slice a6 nkids c6, .int .i64 cp] 60) = W at *
  obtain ⟨q0, q1, q2, q3, q4, q5, q6, q7⟩ := ld8 HB.out
  go_upto_region 2 with (first | (go_at_call 137; refine HMW.out.mono ?_; rintro e w1 ⟨rfl, x1⟩; have X1 := hide x1; clear x1) | (go_at_call 65; refine (HM.out _).mono ?_; rintro e w2 ⟨rfl, hw⟩; have hw2 := hw.symm; clear hw; subst hw2))
  clear q0 q1 q2 q3 q4 q5 q6 q7 HMW hde
  have HB1 := hide ((X1.out.block P (lt_of_block HB.out)).trans HB.out)
  have R1 := hide (RW.out.below X1.out)
  have HC1 := hide (HCW.out.below X1.out)
  have XX1 := hide (bt XW.out X1.out (Nat.le_refl _))
  clear HB RW HCW XW X1
  have q0 : w1.cell? ⟨P, 0, none⟩ = some (.int .i64 2) := by rw [cell_of_row _ _ _ _ _ _ HB1.out]; rfl
  go_upto_region 3 with (go_at_call 138; refine (HH.out _).mono ?_; rintro e w2 ⟨rfl, x2⟩; have X2 := hide x2; clear x2)
  clear q0
  have HB2 := hide ((X2.out.block P (lt_of_block HB1.out)).trans HB1.out)
  have R2 := hide (R1.out.below X2.out)
  have HC2 := hide (HC1.out.below X2.out)
  have XX2 := hide (KpO.of_below (base := base) (wp := wp) (bt XX1.out X2.out (Nat.le_refl _)))
  clear HB1 R1 HC1 XX1 X2 HH
  by_cases hbr : 3 < place
  · exact absurd hbr (by omega)
  · rw [if_neg hbr] at ha hx
    have hbi : ¬ (3 : Int) < (place : Int) := by omega
    obtain rfl := Option.some.inj ha
    obtain rfl := Option.some.inj hx
    clear ha hx hbr
    have R3 := hide R2.out
    have HB3 := hide HB2.out
    have HC3 := hide HC2.out
    have XX3 := hide XX2.out
    clear R2 HB2 HC2 XX2
    go_upto_region 5 with fail
    obtain ⟨q0, q1, q2, q3, q4, q5, q6, q7⟩ := ld8 HB3.out
    have HMC := hide (HMM.out _ R3.out HC3.out)
    go_upto_region 14 with (go_at_call 141; refine HMC.out.mono ?_; rintro e w5 ⟨rfl, r5, x5⟩; have R5 := hide r5; have X5 := hide x5; clear r5 x5)
    clear q0 q1 q2 q3 q4 q5 q6 q7 HMC
    go_wp2
    go_end0
    exact ⟨rfl, R5.out, XX3.out.trans X5.out⟩
set_option maxRecDepth 100000 in
set_option maxHeartbeats 8000000 in
theorem cond_name {w : World} {base wp b0 deep place : Nat} {c : CT} {vs : List Value} {bs : List Nat} {s x : WS} {M : WS → Option WS} (hk : c.k = 3) (hdp : deep ≤ 16) (hp : place ≤ 3) (hno : NoM c) (h : WrA w base wp s.1 s.2) (hc : CtAt w b0 c vs bs)
    (hM : ∀ (V : World) (a b : WS), WrA V base wp a.1 a.2 → CtAt V b0 c vs bs → M a = some b → Calls Tryz.prog 104 #[.pointer (some ⟨wp, 0, none⟩), .string ⟨c.nm.toArray⟩] V (PostW base wp V b))
    (hx0 : ((if 3 < place then othW [40] s else some s).bind fun a => (M a).bind fun b => if 3 < place then othW [41] b else some b) = some x) :
    Calls Tryz.prog 106 #[.pointer (some ⟨wp, 0, none⟩), .agg vs.toArray, .int .i64 (place : Nat), .int .i64 (deep : Nat)] w (PostW base wp w x) := by
  obtain ⟨a, ha, hx1⟩ := Option.bind_eq_some_iff.1 hx0
  obtain ⟨b, hb, hx⟩ := Option.bind_eq_some_iff.1 hx1
  clear hx0 hx1
  have HMN := hide (fun V (y : Below w.heap.size w V) => more_no (hc.below y) hno)
  have HCT := hide hc
  obtain ⟨a3, c3, a4, c4, a5, c5, a6, c6, rfl⟩ := hc.eight
  rw [hk] at HMN HCT hM ⊢
  have XW := hide (show Below w.heap.size w (w.alloc (.cells #[.int .i64 3, .string ⟨c.nm.toArray⟩, .string ⟨c.tx.toArray⟩, .slice a3 c.pre.length c3, .slice a4 c.sp.length c4, .slice a5 c.ns.length c5, .slice a6 c.kids.length c6, .int .i64 c.p] 60)) from al (Below.refl _ _) _)
  have HB := hide (heap_alloc_new w (.cells #[.int .i64 3, .string ⟨c.nm.toArray⟩, .string ⟨c.tx.toArray⟩, .slice a3 c.pre.length c3, .slice a4 c.sp.length c4, .slice a5 c.ns.length c5, .slice a6 c.kids.length c6, .int .i64 c.p] 60))
  have HMM := hide (fun V r k => hM V a b r k hb)
  have RW := hide (h.below XW.out)
  have HCW := hide (HCT.out.below XW.out)
  have HMW := hide (HMN.out _ XW.out)
  have HM := hide must_ok
  have HH : Hid (∀ V, Calls Tryz.prog 138 #[.int .i64 3] V fun e w' => e = .returned (.int .i64 3) ∧ Below V.heap.size V w') := fun V => holds_any 3 V
  have hde : (deep : Int) ≤ 16 := by omega
  clear hc hno hM hb h HCT HMN hdp
  generalize c.nm = nm at *
  generalize c.tx = tx at *
  generalize c.p = cp at *
  generalize c.pre.length = npre at *
  generalize c.sp.length = nsp at *
  generalize c.ns.length = nns at *
  generalize c.kids.length = nkids at *
  obtain ⟨P, hP⟩ : ∃ P, P = w.heap.size := ⟨_, rfl⟩
  go_enter Tryz.func106, Tryz.ntmps106
  go_upto_region 1 with fail
  rw [← hP] at HB ⊢
  clear hP
  generalize w.alloc (.cells #[.int .i64 3, .string ⟨nm.toArray⟩, .string ⟨tx.toArray⟩, .slice a3 npre c3, .slice a4 nsp c4, .slice a5 nns c5, .slice a6 nkids c6, .int .i64 cp] 60) = W at *
  obtain ⟨q0, q1, q2, q3, q4, q5, q6, q7⟩ := ld8 HB.out
  go_upto_region 2 with (first | (go_at_call 137; refine HMW.out.mono ?_; rintro e w1 ⟨rfl, x1⟩; have X1 := hide x1; clear x1) | (go_at_call 65; refine (HM.out _).mono ?_; rintro e w2 ⟨rfl, hw⟩; have hw2 := hw.symm; clear hw; subst hw2))
  clear q0 q1 q2 q3 q4 q5 q6 q7 HMW hde
  have HB1 := hide ((X1.out.block P (lt_of_block HB.out)).trans HB.out)
  have R1 := hide (RW.out.below X1.out)
  have HC1 := hide (HCW.out.below X1.out)
  have XX1 := hide (bt XW.out X1.out (Nat.le_refl _))
  clear HB RW HCW XW X1
  have q0 : w1.cell? ⟨P, 0, none⟩ = some (.int .i64 3) := by rw [cell_of_row _ _ _ _ _ _ HB1.out]; rfl
  go_upto_region 3 with (go_at_call 138; refine (HH.out _).mono ?_; rintro e w2 ⟨rfl, x2⟩; have X2 := hide x2; clear x2)
  clear q0
  have HB2 := hide ((X2.out.block P (lt_of_block HB1.out)).trans HB1.out)
  have R2 := hide (R1.out.below X2.out)
  have HC2 := hide (HC1.out.below X2.out)
  have XX2 := hide (KpO.of_below (base := base) (wp := wp) (bt XX1.out X2.out (Nat.le_refl _)))
  clear HB1 R1 HC1 XX1 X2 HH
  by_cases hbr : 3 < place
  · exact absurd hbr (by omega)
  · rw [if_neg hbr] at ha hx
    have hbi : ¬ (3 : Int) < (place : Int) := by omega
    obtain rfl := Option.some.inj ha
    obtain rfl := Option.some.inj hx
    clear ha hx hbr
    have R3 := hide R2.out
    have HB3 := hide HB2.out
    have HC3 := hide HC2.out
    have XX3 := hide XX2.out
    clear R2 HB2 HC2 XX2
    go_upto_region 5 with fail
    obtain ⟨q0, q1, q2, q3, q4, q5, q6, q7⟩ := ld8 HB3.out
    have HMC := hide (HMM.out _ R3.out HC3.out)
    go_upto_region 14 with (go_at_call 104; refine HMC.out.mono ?_; rintro e w5 ⟨rfl, r5, x5⟩; have R5 := hide r5; have X5 := hide x5; clear r5 x5)
    clear q0 q1 q2 q3 q4 q5 q6 q7 HMC
    go_wp2
    go_end0
    exact ⟨rfl, R5.out, XX3.out.trans X5.out⟩
set_option maxRecDepth 100000 in
set_option maxHeartbeats 8000000 in
theorem cond_not {w : World} {base wp b0 deep place : Nat} {c : CT} {vs : List Value} {bs : List Nat} {s x : WS} {M : WS → Option WS} (hk : c.k = 4) (hdp : deep ≤ 16) (hp : place ≤ 3) (hno : NoM c) (h : WrA w base wp s.1 s.2) (hc : CtAt w b0 c vs bs)
    (hM : ∀ (V : World) (a b : WS), WrA V base wp a.1 a.2 → CtAt V b0 c vs bs → M a = some b → Calls Tryz.prog 139 #[.pointer (some ⟨wp, 0, none⟩), .agg vs.toArray, .agg #[.string ⟨#[110, 111, 116]⟩, .int .i64 4, .int .i64 2], .int .i64 (deep : Nat)] V (PostW base wp V b))
    (hx0 : ((if 2 < place then othW [40] s else some s).bind fun a => (M a).bind fun b => if 2 < place then othW [41] b else some b) = some x) :
    Calls Tryz.prog 106 #[.pointer (some ⟨wp, 0, none⟩), .agg vs.toArray, .int .i64 (place : Nat), .int .i64 (deep : Nat)] w (PostW base wp w x) := by
  obtain ⟨a, ha, hx1⟩ := Option.bind_eq_some_iff.1 hx0
  obtain ⟨b, hb, hx⟩ := Option.bind_eq_some_iff.1 hx1
  clear hx0 hx1
  have HMN := hide (fun V (y : Below w.heap.size w V) => more_no (hc.below y) hno)
  have HCT := hide hc
  obtain ⟨a3, c3, a4, c4, a5, c5, a6, c6, rfl⟩ := hc.eight
  rw [hk] at HMN HCT hM ⊢
  have XW := hide (show Below w.heap.size w (w.alloc (.cells #[.int .i64 4, .string ⟨c.nm.toArray⟩, .string ⟨c.tx.toArray⟩, .slice a3 c.pre.length c3, .slice a4 c.sp.length c4, .slice a5 c.ns.length c5, .slice a6 c.kids.length c6, .int .i64 c.p] 60)) from al (Below.refl _ _) _)
  have HB := hide (heap_alloc_new w (.cells #[.int .i64 4, .string ⟨c.nm.toArray⟩, .string ⟨c.tx.toArray⟩, .slice a3 c.pre.length c3, .slice a4 c.sp.length c4, .slice a5 c.ns.length c5, .slice a6 c.kids.length c6, .int .i64 c.p] 60))
  have HMM := hide (fun V r k => hM V a b r k hb)
  have RW := hide (h.below XW.out)
  have HCW := hide (HCT.out.below XW.out)
  have HMW := hide (HMN.out _ XW.out)
  have HM := hide must_ok
  have HH : Hid (∀ V, Calls Tryz.prog 138 #[.int .i64 4] V fun e w' => e = .returned (.int .i64 2) ∧ Below V.heap.size V w') := fun V => holds_any 4 V
  have hde : (deep : Int) ≤ 16 := by omega
  clear hc hno hM hb h HCT HMN hdp
  generalize c.nm = nm at *
  generalize c.tx = tx at *
  generalize c.p = cp at *
  generalize c.pre.length = npre at *
  generalize c.sp.length = nsp at *
  generalize c.ns.length = nns at *
  generalize c.kids.length = nkids at *
  obtain ⟨P, hP⟩ : ∃ P, P = w.heap.size := ⟨_, rfl⟩
  go_enter Tryz.func106, Tryz.ntmps106
  go_upto_region 1 with fail
  rw [← hP] at HB ⊢
  clear hP
  generalize w.alloc (.cells #[.int .i64 4, .string ⟨nm.toArray⟩, .string ⟨tx.toArray⟩, .slice a3 npre c3, .slice a4 nsp c4, .slice a5 nns c5, .slice a6 nkids c6, .int .i64 cp] 60) = W at *
  obtain ⟨q0, q1, q2, q3, q4, q5, q6, q7⟩ := ld8 HB.out
  go_upto_region 2 with (first | (go_at_call 137; refine HMW.out.mono ?_; rintro e w1 ⟨rfl, x1⟩; have X1 := hide x1; clear x1) | (go_at_call 65; refine (HM.out _).mono ?_; rintro e w2 ⟨rfl, hw⟩; have hw2 := hw.symm; clear hw; subst hw2))
  clear q0 q1 q2 q3 q4 q5 q6 q7 HMW hde
  have HB1 := hide ((X1.out.block P (lt_of_block HB.out)).trans HB.out)
  have R1 := hide (RW.out.below X1.out)
  have HC1 := hide (HCW.out.below X1.out)
  have XX1 := hide (bt XW.out X1.out (Nat.le_refl _))
  clear HB RW HCW XW X1
  have q0 : w1.cell? ⟨P, 0, none⟩ = some (.int .i64 4) := by rw [cell_of_row _ _ _ _ _ _ HB1.out]; rfl
  go_upto_region 3 with (go_at_call 138; refine (HH.out _).mono ?_; rintro e w2 ⟨rfl, x2⟩; have X2 := hide x2; clear x2)
  clear q0
  have HB2 := hide ((X2.out.block P (lt_of_block HB1.out)).trans HB1.out)
  have R2 := hide (R1.out.below X2.out)
  have HC2 := hide (HC1.out.below X2.out)
  have XX2 := hide (KpO.of_below (base := base) (wp := wp) (bt XX1.out X2.out (Nat.le_refl _)))
  clear HB1 R1 HC1 XX1 X2 HH
  by_cases hbr : 2 < place
  · rw [if_pos hbr] at ha hx
    have hbi : (2 : Int) < (place : Int) := by omega
    have HO := hide (other_ok R2.out ha)
    have HF := hide (fun V (r : WrA V base wp b.1 b.2) => other_ok r hx)
    clear ha hx hbr
    go_upto_region 5 with (go_at_call 105; refine HO.out.mono ?_; rintro e w3 ⟨rfl, r3, x3⟩; have R3 := hide r3; have X3 := hide x3; clear r3 x3)
    have HB3 := hide (X3.out.box HB2.out (by decide) (R2.out.ne HB2.out (by decide)))
    have HC3 := hide (HC2.out.kpo R2.out X3.out)
    have XX3 := hide (XX2.out.trans X3.out)
    clear HB2 R2 HC2 XX2 X3 HO
    have q0 : w3.cell? ⟨P, 0, none⟩ = some (.int .i64 4) := by rw [cell_of_row _ _ _ _ _ _ HB3.out]; rfl
    go_upto_region 8 with fail
    have XD : Hid (Below w3.heap.size w3 w3.drew) := (Below.refl _ _).drew
    have HQ : Hid (∀ V, Below w3.heap.size w3 V → V.cell? ⟨P, 0, none⟩ = some (.int .i64 4) ∧ V.cell? ⟨P, 1, none⟩ = some (.string ⟨nm.toArray⟩) ∧ V.cell? ⟨P, 2, none⟩ = some (.string ⟨tx.toArray⟩) ∧ V.cell? ⟨P, 3, none⟩ = some (.slice a3 npre c3) ∧ V.cell? ⟨P, 4, none⟩ = some (.slice a4 nsp c4) ∧ V.cell? ⟨P, 5, none⟩ = some (.slice a5 nns c5) ∧ V.cell? ⟨P, 6, none⟩ = some (.slice a6 nkids c6) ∧ V.cell? ⟨P, 7, none⟩ = some (.int .i64 cp)) := fun V y => ld8 ((y.block P (lt_of_block HB3.out)).trans HB3.out)
    have HOP := hide operators_any
    have hix := ixo2
    clear q0
    refine wp_unt (S := fun V => Below w3.heap.size w3 V) 6 (by kernel_rfl) ?_
    refine UntH.take (i := 0) (some 32) rfl rfl (by kernel_rfl) (by kernel_rfl) (by kernel_rfl) (by kernel_rfl) (fun _ _ _ _ h => h) (by rfl) XD.out ?_
    apply Exists.intro
    refine ⟨fun w' hw' => ?_, ?_⟩
    · obtain ⟨q0, q1, q2, q3, q4, q5, q6, q7⟩ := HQ.out w' hw'
      go_simp
      first | done | rfl
    try simp only [Act.put, List.setIfInBounds_toArray, List.set_cons_zero, List.set_cons_succ]
    refine UntH.take (i := 1) (some 33) rfl rfl (by kernel_rfl) (by kernel_rfl) (by kernel_rfl) (by kernel_rfl) (fun _ _ _ _ h => h) (by rfl) XD.out ?_
    apply Exists.intro
    refine ⟨fun w' hw' => ?_, ?_⟩
    · obtain ⟨q0, q1, q2, q3, q4, q5, q6, q7⟩ := HQ.out w' hw'
      go_simp
      first | done | rfl
    try simp only [Act.put, List.setIfInBounds_toArray, List.set_cons_zero, List.set_cons_succ]
    refine UntH.take (i := 3) (some 35) rfl rfl (by kernel_rfl) (by kernel_rfl) (by kernel_rfl) (by kernel_rfl) (fun _ _ _ _ h => h) (by rfl) XD.out ?_
    apply Exists.intro
    refine ⟨fun w' hw' => ?_, ?_⟩
    · obtain ⟨q0, q1, q2, q3, q4, q5, q6, q7⟩ := HQ.out w' hw'
      go_simp
      first | done | rfl
    try simp only [Act.put, List.setIfInBounds_toArray, List.set_cons_zero, List.set_cons_succ]
    refine UntH.take (i := 5) (some 37) rfl rfl (by kernel_rfl) (by kernel_rfl) (by kernel_rfl) (by kernel_rfl) (fun _ _ _ _ h => h) (by rfl) XD.out ?_
    apply Exists.intro
    refine ⟨fun w' hw' => ?_, ?_⟩
    · obtain ⟨q0, q1, q2, q3, q4, q5, q6, q7⟩ := HQ.out w' hw'
      go_simp
      first | done | rfl
    try simp only [Act.put, List.setIfInBounds_toArray, List.set_cons_zero, List.set_cons_succ]
    refine UntH.step (i := 2) (by kernel_rfl) rfl (fun K hK => ?_)
    go_simp
    refine (HOP.out _).mono ?_
    rintro e w4 ⟨rfl, x4⟩
    have X4 : Hid (Below w3.heap.size w3 w4) := bt XD.out x4 (Nat.le_refl _)
    refine hK _ _ X4.out ?_
    clear hK K x4
    try simp only [Act.put, List.setIfInBounds_toArray, List.set_cons_zero, List.set_cons_succ]
    refine UntH.take (i := 4) (some 36) rfl rfl (by kernel_rfl) (by kernel_rfl) (by kernel_rfl) (by kernel_rfl) (fun _ _ _ _ h => h) (by rfl) X4.out ?_
    apply Exists.intro
    refine ⟨fun w' hw' => ?_, ?_⟩
    · obtain ⟨q0, q1, q2, q3, q4, q5, q6, q7⟩ := HQ.out w' hw'
      go_simp
      first | done | rfl
    try simp only [Act.put, List.setIfInBounds_toArray, List.set_cons_zero, List.set_cons_succ]
    have HMC := hide (HMM.out _ (R3.out.below X4.out) (HC3.out.below X4.out))
    refine UntH.last (by kernel_rfl) rfl (by kernel_rfl) (by kernel_rfl) (fun K hK => ?_)
    go_simp
    refine HMC.out.mono ?_
    rintro e w5 ⟨rfl, r5, x5⟩
    refine hK _ _ ?_
    have R5 := hide r5
    have X5 := hide ((KpO.of_below (base := base) (wp := wp) X4.out).trans x5)
    clear hK K r5 x5 HMC hix
    go_wp2_with (go_at_call 105; refine (HF.out _ R5.out).mono ?_; rintro e w6 ⟨rfl, r6, x6⟩; have R6 := hide r6; have X6 := hide x6; clear r6 x6)
    go_end0
    exact ⟨rfl, R6.out, XX3.out.trans (X5.out.trans X6.out)⟩
  · rw [if_neg hbr] at ha hx
    have hbi : ¬ (2 : Int) < (place : Int) := by omega
    obtain rfl := Option.some.inj ha
    obtain rfl := Option.some.inj hx
    clear ha hx hbr
    have R3 := hide R2.out
    have HB3 := hide HB2.out
    have HC3 := hide HC2.out
    have XX3 := hide XX2.out
    clear R2 HB2 HC2 XX2
    go_upto_region 5 with fail
    have q0 : w2.cell? ⟨P, 0, none⟩ = some (.int .i64 4) := by rw [cell_of_row _ _ _ _ _ _ HB3.out]; rfl
    go_upto_region 8 with fail
    have XD : Hid (Below w2.heap.size w2 w2.drew) := (Below.refl _ _).drew
    have HQ : Hid (∀ V, Below w2.heap.size w2 V → V.cell? ⟨P, 0, none⟩ = some (.int .i64 4) ∧ V.cell? ⟨P, 1, none⟩ = some (.string ⟨nm.toArray⟩) ∧ V.cell? ⟨P, 2, none⟩ = some (.string ⟨tx.toArray⟩) ∧ V.cell? ⟨P, 3, none⟩ = some (.slice a3 npre c3) ∧ V.cell? ⟨P, 4, none⟩ = some (.slice a4 nsp c4) ∧ V.cell? ⟨P, 5, none⟩ = some (.slice a5 nns c5) ∧ V.cell? ⟨P, 6, none⟩ = some (.slice a6 nkids c6) ∧ V.cell? ⟨P, 7, none⟩ = some (.int .i64 cp)) := fun V y => ld8 ((y.block P (lt_of_block HB3.out)).trans HB3.out)
    have HOP := hide operators_any
    have hix := ixo2
    clear q0
    refine wp_unt (S := fun V => Below w2.heap.size w2 V) 6 (by kernel_rfl) ?_
    refine UntH.take (i := 0) (some 32) rfl rfl (by kernel_rfl) (by kernel_rfl) (by kernel_rfl) (by kernel_rfl) (fun _ _ _ _ h => h) (by rfl) XD.out ?_
    apply Exists.intro
    refine ⟨fun w' hw' => ?_, ?_⟩
    · obtain ⟨q0, q1, q2, q3, q4, q5, q6, q7⟩ := HQ.out w' hw'
      go_simp
      first | done | rfl
    try simp only [Act.put, List.setIfInBounds_toArray, List.set_cons_zero, List.set_cons_succ]
    refine UntH.take (i := 1) (some 33) rfl rfl (by kernel_rfl) (by kernel_rfl) (by kernel_rfl) (by kernel_rfl) (fun _ _ _ _ h => h) (by rfl) XD.out ?_
    apply Exists.intro
    refine ⟨fun w' hw' => ?_, ?_⟩
    · obtain ⟨q0, q1, q2, q3, q4, q5, q6, q7⟩ := HQ.out w' hw'
      go_simp
      first | done | rfl
    try simp only [Act.put, List.setIfInBounds_toArray, List.set_cons_zero, List.set_cons_succ]
    refine UntH.take (i := 3) (some 35) rfl rfl (by kernel_rfl) (by kernel_rfl) (by kernel_rfl) (by kernel_rfl) (fun _ _ _ _ h => h) (by rfl) XD.out ?_
    apply Exists.intro
    refine ⟨fun w' hw' => ?_, ?_⟩
    · obtain ⟨q0, q1, q2, q3, q4, q5, q6, q7⟩ := HQ.out w' hw'
      go_simp
      first | done | rfl
    try simp only [Act.put, List.setIfInBounds_toArray, List.set_cons_zero, List.set_cons_succ]
    refine UntH.take (i := 5) (some 37) rfl rfl (by kernel_rfl) (by kernel_rfl) (by kernel_rfl) (by kernel_rfl) (fun _ _ _ _ h => h) (by rfl) XD.out ?_
    apply Exists.intro
    refine ⟨fun w' hw' => ?_, ?_⟩
    · obtain ⟨q0, q1, q2, q3, q4, q5, q6, q7⟩ := HQ.out w' hw'
      go_simp
      first | done | rfl
    try simp only [Act.put, List.setIfInBounds_toArray, List.set_cons_zero, List.set_cons_succ]
    refine UntH.step (i := 2) (by kernel_rfl) rfl (fun K hK => ?_)
    go_simp
    refine (HOP.out _).mono ?_
    rintro e w4 ⟨rfl, x4⟩
    have X4 : Hid (Below w2.heap.size w2 w4) := bt XD.out x4 (Nat.le_refl _)
    refine hK _ _ X4.out ?_
    clear hK K x4
    try simp only [Act.put, List.setIfInBounds_toArray, List.set_cons_zero, List.set_cons_succ]
    refine UntH.take (i := 4) (some 36) rfl rfl (by kernel_rfl) (by kernel_rfl) (by kernel_rfl) (by kernel_rfl) (fun _ _ _ _ h => h) (by rfl) X4.out ?_
    apply Exists.intro
    refine ⟨fun w' hw' => ?_, ?_⟩
    · obtain ⟨q0, q1, q2, q3, q4, q5, q6, q7⟩ := HQ.out w' hw'
      go_simp
      first | done | rfl
    try simp only [Act.put, List.setIfInBounds_toArray, List.set_cons_zero, List.set_cons_succ]
    have HMC := hide (HMM.out _ (R3.out.below X4.out) (HC3.out.below X4.out))
    refine UntH.last (by kernel_rfl) rfl (by kernel_rfl) (by kernel_rfl) (fun K hK => ?_)
    go_simp
    refine HMC.out.mono ?_
    rintro e w5 ⟨rfl, r5, x5⟩
    refine hK _ _ ?_
    have R5 := hide r5
    have X5 := hide ((KpO.of_below (base := base) (wp := wp) X4.out).trans x5)
    clear hK K r5 x5 HMC hix
    go_wp2
    go_end0
    exact ⟨rfl, R5.out, XX3.out.trans X5.out⟩
set_option maxRecDepth 100000 in
set_option maxHeartbeats 8000000 in
theorem cond_and {w : World} {base wp b0 deep place : Nat} {c : CT} {vs : List Value} {bs : List Nat} {s x : WS} {M : WS → Option WS} (hk : c.k = 5) (hdp : deep ≤ 16) (hp : place ≤ 3) (hno : NoM c) (h : WrA w base wp s.1 s.2) (hc : CtAt w b0 c vs bs)
    (hM : ∀ (V : World) (a b : WS), WrA V base wp a.1 a.2 → CtAt V b0 c vs bs → M a = some b → Calls Tryz.prog 140 #[.pointer (some ⟨wp, 0, none⟩), .agg vs.toArray, .agg #[.string ⟨#[97, 110, 100]⟩, .int .i64 5, .int .i64 2], .int .i64 (deep : Nat)] V (PostW base wp V b))
    (hx0 : ((if 1 < place then othW [40] s else some s).bind fun a => (M a).bind fun b => if 1 < place then othW [41] b else some b) = some x) :
    Calls Tryz.prog 106 #[.pointer (some ⟨wp, 0, none⟩), .agg vs.toArray, .int .i64 (place : Nat), .int .i64 (deep : Nat)] w (PostW base wp w x) := by
  obtain ⟨a, ha, hx1⟩ := Option.bind_eq_some_iff.1 hx0
  obtain ⟨b, hb, hx⟩ := Option.bind_eq_some_iff.1 hx1
  clear hx0 hx1
  have HMN := hide (fun V (y : Below w.heap.size w V) => more_no (hc.below y) hno)
  have HCT := hide hc
  obtain ⟨a3, c3, a4, c4, a5, c5, a6, c6, rfl⟩ := hc.eight
  rw [hk] at HMN HCT hM ⊢
  have XW := hide (show Below w.heap.size w (w.alloc (.cells #[.int .i64 5, .string ⟨c.nm.toArray⟩, .string ⟨c.tx.toArray⟩, .slice a3 c.pre.length c3, .slice a4 c.sp.length c4, .slice a5 c.ns.length c5, .slice a6 c.kids.length c6, .int .i64 c.p] 60)) from al (Below.refl _ _) _)
  have HB := hide (heap_alloc_new w (.cells #[.int .i64 5, .string ⟨c.nm.toArray⟩, .string ⟨c.tx.toArray⟩, .slice a3 c.pre.length c3, .slice a4 c.sp.length c4, .slice a5 c.ns.length c5, .slice a6 c.kids.length c6, .int .i64 c.p] 60))
  have HMM := hide (fun V r k => hM V a b r k hb)
  have RW := hide (h.below XW.out)
  have HCW := hide (HCT.out.below XW.out)
  have HMW := hide (HMN.out _ XW.out)
  have HM := hide must_ok
  have HH : Hid (∀ V, Calls Tryz.prog 138 #[.int .i64 5] V fun e w' => e = .returned (.int .i64 1) ∧ Below V.heap.size V w') := fun V => holds_any 5 V
  have hde : (deep : Int) ≤ 16 := by omega
  clear hc hno hM hb h HCT HMN hdp
  generalize c.nm = nm at *
  generalize c.tx = tx at *
  generalize c.p = cp at *
  generalize c.pre.length = npre at *
  generalize c.sp.length = nsp at *
  generalize c.ns.length = nns at *
  generalize c.kids.length = nkids at *
  obtain ⟨P, hP⟩ : ∃ P, P = w.heap.size := ⟨_, rfl⟩
  go_enter Tryz.func106, Tryz.ntmps106
  go_upto_region 1 with fail
  rw [← hP] at HB ⊢
  clear hP
  generalize w.alloc (.cells #[.int .i64 5, .string ⟨nm.toArray⟩, .string ⟨tx.toArray⟩, .slice a3 npre c3, .slice a4 nsp c4, .slice a5 nns c5, .slice a6 nkids c6, .int .i64 cp] 60) = W at *
  obtain ⟨q0, q1, q2, q3, q4, q5, q6, q7⟩ := ld8 HB.out
  go_upto_region 2 with (first | (go_at_call 137; refine HMW.out.mono ?_; rintro e w1 ⟨rfl, x1⟩; have X1 := hide x1; clear x1) | (go_at_call 65; refine (HM.out _).mono ?_; rintro e w2 ⟨rfl, hw⟩; have hw2 := hw.symm; clear hw; subst hw2))
  clear q0 q1 q2 q3 q4 q5 q6 q7 HMW hde
  have HB1 := hide ((X1.out.block P (lt_of_block HB.out)).trans HB.out)
  have R1 := hide (RW.out.below X1.out)
  have HC1 := hide (HCW.out.below X1.out)
  have XX1 := hide (bt XW.out X1.out (Nat.le_refl _))
  clear HB RW HCW XW X1
  have q0 : w1.cell? ⟨P, 0, none⟩ = some (.int .i64 5) := by rw [cell_of_row _ _ _ _ _ _ HB1.out]; rfl
  go_upto_region 3 with (go_at_call 138; refine (HH.out _).mono ?_; rintro e w2 ⟨rfl, x2⟩; have X2 := hide x2; clear x2)
  clear q0
  have HB2 := hide ((X2.out.block P (lt_of_block HB1.out)).trans HB1.out)
  have R2 := hide (R1.out.below X2.out)
  have HC2 := hide (HC1.out.below X2.out)
  have XX2 := hide (KpO.of_below (base := base) (wp := wp) (bt XX1.out X2.out (Nat.le_refl _)))
  clear HB1 R1 HC1 XX1 X2 HH
  by_cases hbr : 1 < place
  · rw [if_pos hbr] at ha hx
    have hbi : (1 : Int) < (place : Int) := by omega
    have HO := hide (other_ok R2.out ha)
    have HF := hide (fun V (r : WrA V base wp b.1 b.2) => other_ok r hx)
    clear ha hx hbr
    go_upto_region 5 with (go_at_call 105; refine HO.out.mono ?_; rintro e w3 ⟨rfl, r3, x3⟩; have R3 := hide r3; have X3 := hide x3; clear r3 x3)
    have HB3 := hide (X3.out.box HB2.out (by decide) (R2.out.ne HB2.out (by decide)))
    have HC3 := hide (HC2.out.kpo R2.out X3.out)
    have XX3 := hide (XX2.out.trans X3.out)
    clear HB2 R2 HC2 XX2 X3 HO
    have q0 : w3.cell? ⟨P, 0, none⟩ = some (.int .i64 5) := by rw [cell_of_row _ _ _ _ _ _ HB3.out]; rfl
    go_upto_region 11 with fail
    have XD : Hid (Below w3.heap.size w3 w3.drew) := (Below.refl _ _).drew
    have HQ : Hid (∀ V, Below w3.heap.size w3 V → V.cell? ⟨P, 0, none⟩ = some (.int .i64 5) ∧ V.cell? ⟨P, 1, none⟩ = some (.string ⟨nm.toArray⟩) ∧ V.cell? ⟨P, 2, none⟩ = some (.string ⟨tx.toArray⟩) ∧ V.cell? ⟨P, 3, none⟩ = some (.slice a3 npre c3) ∧ V.cell? ⟨P, 4, none⟩ = some (.slice a4 nsp c4) ∧ V.cell? ⟨P, 5, none⟩ = some (.slice a5 nns c5) ∧ V.cell? ⟨P, 6, none⟩ = some (.slice a6 nkids c6) ∧ V.cell? ⟨P, 7, none⟩ = some (.int .i64 cp)) := fun V y => ld8 ((y.block P (lt_of_block HB3.out)).trans HB3.out)
    have HOP := hide operators_any
    have hix := ixo1
    clear q0
    refine wp_unt (S := fun V => Below w3.heap.size w3 V) 6 (by kernel_rfl) ?_
    refine UntH.take (i := 0) (some 42) rfl rfl (by kernel_rfl) (by kernel_rfl) (by kernel_rfl) (by kernel_rfl) (fun _ _ _ _ h => h) (by rfl) XD.out ?_
    apply Exists.intro
    refine ⟨fun w' hw' => ?_, ?_⟩
    · obtain ⟨q0, q1, q2, q3, q4, q5, q6, q7⟩ := HQ.out w' hw'
      go_simp
      first | done | rfl
    try simp only [Act.put, List.setIfInBounds_toArray, List.set_cons_zero, List.set_cons_succ]
    refine UntH.take (i := 1) (some 43) rfl rfl (by kernel_rfl) (by kernel_rfl) (by kernel_rfl) (by kernel_rfl) (fun _ _ _ _ h => h) (by rfl) XD.out ?_
    apply Exists.intro
    refine ⟨fun w' hw' => ?_, ?_⟩
    · obtain ⟨q0, q1, q2, q3, q4, q5, q6, q7⟩ := HQ.out w' hw'
      go_simp
      first | done | rfl
    try simp only [Act.put, List.setIfInBounds_toArray, List.set_cons_zero, List.set_cons_succ]
    refine UntH.take (i := 3) (some 45) rfl rfl (by kernel_rfl) (by kernel_rfl) (by kernel_rfl) (by kernel_rfl) (fun _ _ _ _ h => h) (by rfl) XD.out ?_
    apply Exists.intro
    refine ⟨fun w' hw' => ?_, ?_⟩
    · obtain ⟨q0, q1, q2, q3, q4, q5, q6, q7⟩ := HQ.out w' hw'
      go_simp
      first | done | rfl
    try simp only [Act.put, List.setIfInBounds_toArray, List.set_cons_zero, List.set_cons_succ]
    refine UntH.take (i := 5) (some 47) rfl rfl (by kernel_rfl) (by kernel_rfl) (by kernel_rfl) (by kernel_rfl) (fun _ _ _ _ h => h) (by rfl) XD.out ?_
    apply Exists.intro
    refine ⟨fun w' hw' => ?_, ?_⟩
    · obtain ⟨q0, q1, q2, q3, q4, q5, q6, q7⟩ := HQ.out w' hw'
      go_simp
      first | done | rfl
    try simp only [Act.put, List.setIfInBounds_toArray, List.set_cons_zero, List.set_cons_succ]
    refine UntH.step (i := 2) (by kernel_rfl) rfl (fun K hK => ?_)
    go_simp
    refine (HOP.out _).mono ?_
    rintro e w4 ⟨rfl, x4⟩
    have X4 : Hid (Below w3.heap.size w3 w4) := bt XD.out x4 (Nat.le_refl _)
    refine hK _ _ X4.out ?_
    clear hK K x4
    try simp only [Act.put, List.setIfInBounds_toArray, List.set_cons_zero, List.set_cons_succ]
    refine UntH.take (i := 4) (some 46) rfl rfl (by kernel_rfl) (by kernel_rfl) (by kernel_rfl) (by kernel_rfl) (fun _ _ _ _ h => h) (by rfl) X4.out ?_
    apply Exists.intro
    refine ⟨fun w' hw' => ?_, ?_⟩
    · obtain ⟨q0, q1, q2, q3, q4, q5, q6, q7⟩ := HQ.out w' hw'
      go_simp
      first | done | rfl
    try simp only [Act.put, List.setIfInBounds_toArray, List.set_cons_zero, List.set_cons_succ]
    have HMC := hide (HMM.out _ (R3.out.below X4.out) (HC3.out.below X4.out))
    refine UntH.last (by kernel_rfl) rfl (by kernel_rfl) (by kernel_rfl) (fun K hK => ?_)
    go_simp
    refine HMC.out.mono ?_
    rintro e w5 ⟨rfl, r5, x5⟩
    refine hK _ _ ?_
    have R5 := hide r5
    have X5 := hide ((KpO.of_below (base := base) (wp := wp) X4.out).trans x5)
    clear hK K r5 x5 HMC hix
    go_wp2_with (go_at_call 105; refine (HF.out _ R5.out).mono ?_; rintro e w6 ⟨rfl, r6, x6⟩; have R6 := hide r6; have X6 := hide x6; clear r6 x6)
    go_end0
    exact ⟨rfl, R6.out, XX3.out.trans (X5.out.trans X6.out)⟩
  · rw [if_neg hbr] at ha hx
    have hbi : ¬ (1 : Int) < (place : Int) := by omega
    obtain rfl := Option.some.inj ha
    obtain rfl := Option.some.inj hx
    clear ha hx hbr
    have R3 := hide R2.out
    have HB3 := hide HB2.out
    have HC3 := hide HC2.out
    have XX3 := hide XX2.out
    clear R2 HB2 HC2 XX2
    go_upto_region 5 with fail
    have q0 : w2.cell? ⟨P, 0, none⟩ = some (.int .i64 5) := by rw [cell_of_row _ _ _ _ _ _ HB3.out]; rfl
    go_upto_region 11 with fail
    have XD : Hid (Below w2.heap.size w2 w2.drew) := (Below.refl _ _).drew
    have HQ : Hid (∀ V, Below w2.heap.size w2 V → V.cell? ⟨P, 0, none⟩ = some (.int .i64 5) ∧ V.cell? ⟨P, 1, none⟩ = some (.string ⟨nm.toArray⟩) ∧ V.cell? ⟨P, 2, none⟩ = some (.string ⟨tx.toArray⟩) ∧ V.cell? ⟨P, 3, none⟩ = some (.slice a3 npre c3) ∧ V.cell? ⟨P, 4, none⟩ = some (.slice a4 nsp c4) ∧ V.cell? ⟨P, 5, none⟩ = some (.slice a5 nns c5) ∧ V.cell? ⟨P, 6, none⟩ = some (.slice a6 nkids c6) ∧ V.cell? ⟨P, 7, none⟩ = some (.int .i64 cp)) := fun V y => ld8 ((y.block P (lt_of_block HB3.out)).trans HB3.out)
    have HOP := hide operators_any
    have hix := ixo1
    clear q0
    refine wp_unt (S := fun V => Below w2.heap.size w2 V) 6 (by kernel_rfl) ?_
    refine UntH.take (i := 0) (some 42) rfl rfl (by kernel_rfl) (by kernel_rfl) (by kernel_rfl) (by kernel_rfl) (fun _ _ _ _ h => h) (by rfl) XD.out ?_
    apply Exists.intro
    refine ⟨fun w' hw' => ?_, ?_⟩
    · obtain ⟨q0, q1, q2, q3, q4, q5, q6, q7⟩ := HQ.out w' hw'
      go_simp
      first | done | rfl
    try simp only [Act.put, List.setIfInBounds_toArray, List.set_cons_zero, List.set_cons_succ]
    refine UntH.take (i := 1) (some 43) rfl rfl (by kernel_rfl) (by kernel_rfl) (by kernel_rfl) (by kernel_rfl) (fun _ _ _ _ h => h) (by rfl) XD.out ?_
    apply Exists.intro
    refine ⟨fun w' hw' => ?_, ?_⟩
    · obtain ⟨q0, q1, q2, q3, q4, q5, q6, q7⟩ := HQ.out w' hw'
      go_simp
      first | done | rfl
    try simp only [Act.put, List.setIfInBounds_toArray, List.set_cons_zero, List.set_cons_succ]
    refine UntH.take (i := 3) (some 45) rfl rfl (by kernel_rfl) (by kernel_rfl) (by kernel_rfl) (by kernel_rfl) (fun _ _ _ _ h => h) (by rfl) XD.out ?_
    apply Exists.intro
    refine ⟨fun w' hw' => ?_, ?_⟩
    · obtain ⟨q0, q1, q2, q3, q4, q5, q6, q7⟩ := HQ.out w' hw'
      go_simp
      first | done | rfl
    try simp only [Act.put, List.setIfInBounds_toArray, List.set_cons_zero, List.set_cons_succ]
    refine UntH.take (i := 5) (some 47) rfl rfl (by kernel_rfl) (by kernel_rfl) (by kernel_rfl) (by kernel_rfl) (fun _ _ _ _ h => h) (by rfl) XD.out ?_
    apply Exists.intro
    refine ⟨fun w' hw' => ?_, ?_⟩
    · obtain ⟨q0, q1, q2, q3, q4, q5, q6, q7⟩ := HQ.out w' hw'
      go_simp
      first | done | rfl
    try simp only [Act.put, List.setIfInBounds_toArray, List.set_cons_zero, List.set_cons_succ]
    refine UntH.step (i := 2) (by kernel_rfl) rfl (fun K hK => ?_)
    go_simp
    refine (HOP.out _).mono ?_
    rintro e w4 ⟨rfl, x4⟩
    have X4 : Hid (Below w2.heap.size w2 w4) := bt XD.out x4 (Nat.le_refl _)
    refine hK _ _ X4.out ?_
    clear hK K x4
    try simp only [Act.put, List.setIfInBounds_toArray, List.set_cons_zero, List.set_cons_succ]
    refine UntH.take (i := 4) (some 46) rfl rfl (by kernel_rfl) (by kernel_rfl) (by kernel_rfl) (by kernel_rfl) (fun _ _ _ _ h => h) (by rfl) X4.out ?_
    apply Exists.intro
    refine ⟨fun w' hw' => ?_, ?_⟩
    · obtain ⟨q0, q1, q2, q3, q4, q5, q6, q7⟩ := HQ.out w' hw'
      go_simp
      first | done | rfl
    try simp only [Act.put, List.setIfInBounds_toArray, List.set_cons_zero, List.set_cons_succ]
    have HMC := hide (HMM.out _ (R3.out.below X4.out) (HC3.out.below X4.out))
    refine UntH.last (by kernel_rfl) rfl (by kernel_rfl) (by kernel_rfl) (fun K hK => ?_)
    go_simp
    refine HMC.out.mono ?_
    rintro e w5 ⟨rfl, r5, x5⟩
    refine hK _ _ ?_
    have R5 := hide r5
    have X5 := hide ((KpO.of_below (base := base) (wp := wp) X4.out).trans x5)
    clear hK K r5 x5 HMC hix
    go_wp2
    go_end0
    exact ⟨rfl, R5.out, XX3.out.trans X5.out⟩
set_option maxRecDepth 100000 in
set_option maxHeartbeats 8000000 in
theorem cond_or {w : World} {base wp b0 deep place : Nat} {c : CT} {vs : List Value} {bs : List Nat} {s x : WS} {M : WS → Option WS} (hk : c.k = 6) (hdp : deep ≤ 16) (hp : place ≤ 3) (hno : NoM c) (h : WrA w base wp s.1 s.2) (hc : CtAt w b0 c vs bs)
    (hM : ∀ (V : World) (a b : WS), WrA V base wp a.1 a.2 → CtAt V b0 c vs bs → M a = some b → Calls Tryz.prog 140 #[.pointer (some ⟨wp, 0, none⟩), .agg vs.toArray, .agg #[.string ⟨#[111, 114]⟩, .int .i64 6, .int .i64 1], .int .i64 (deep : Nat)] V (PostW base wp V b))
    (hx0 : ((if 0 < place then othW [40] s else some s).bind fun a => (M a).bind fun b => if 0 < place then othW [41] b else some b) = some x) :
    Calls Tryz.prog 106 #[.pointer (some ⟨wp, 0, none⟩), .agg vs.toArray, .int .i64 (place : Nat), .int .i64 (deep : Nat)] w (PostW base wp w x) := by
  obtain ⟨a, ha, hx1⟩ := Option.bind_eq_some_iff.1 hx0
  obtain ⟨b, hb, hx⟩ := Option.bind_eq_some_iff.1 hx1
  clear hx0 hx1
  have HMN := hide (fun V (y : Below w.heap.size w V) => more_no (hc.below y) hno)
  have HCT := hide hc
  obtain ⟨a3, c3, a4, c4, a5, c5, a6, c6, rfl⟩ := hc.eight
  rw [hk] at HMN HCT hM ⊢
  have XW := hide (show Below w.heap.size w (w.alloc (.cells #[.int .i64 6, .string ⟨c.nm.toArray⟩, .string ⟨c.tx.toArray⟩, .slice a3 c.pre.length c3, .slice a4 c.sp.length c4, .slice a5 c.ns.length c5, .slice a6 c.kids.length c6, .int .i64 c.p] 60)) from al (Below.refl _ _) _)
  have HB := hide (heap_alloc_new w (.cells #[.int .i64 6, .string ⟨c.nm.toArray⟩, .string ⟨c.tx.toArray⟩, .slice a3 c.pre.length c3, .slice a4 c.sp.length c4, .slice a5 c.ns.length c5, .slice a6 c.kids.length c6, .int .i64 c.p] 60))
  have HMM := hide (fun V r k => hM V a b r k hb)
  have RW := hide (h.below XW.out)
  have HCW := hide (HCT.out.below XW.out)
  have HMW := hide (HMN.out _ XW.out)
  have HM := hide must_ok
  have HH : Hid (∀ V, Calls Tryz.prog 138 #[.int .i64 6] V fun e w' => e = .returned (.int .i64 0) ∧ Below V.heap.size V w') := fun V => holds_any 6 V
  have hde : (deep : Int) ≤ 16 := by omega
  clear hc hno hM hb h HCT HMN hdp
  generalize c.nm = nm at *
  generalize c.tx = tx at *
  generalize c.p = cp at *
  generalize c.pre.length = npre at *
  generalize c.sp.length = nsp at *
  generalize c.ns.length = nns at *
  generalize c.kids.length = nkids at *
  obtain ⟨P, hP⟩ : ∃ P, P = w.heap.size := ⟨_, rfl⟩
  go_enter Tryz.func106, Tryz.ntmps106
  go_upto_region 1 with fail
  rw [← hP] at HB ⊢
  clear hP
  generalize w.alloc (.cells #[.int .i64 6, .string ⟨nm.toArray⟩, .string ⟨tx.toArray⟩, .slice a3 npre c3, .slice a4 nsp c4, .slice a5 nns c5, .slice a6 nkids c6, .int .i64 cp] 60) = W at *
  obtain ⟨q0, q1, q2, q3, q4, q5, q6, q7⟩ := ld8 HB.out
  go_upto_region 2 with (first | (go_at_call 137; refine HMW.out.mono ?_; rintro e w1 ⟨rfl, x1⟩; have X1 := hide x1; clear x1) | (go_at_call 65; refine (HM.out _).mono ?_; rintro e w2 ⟨rfl, hw⟩; have hw2 := hw.symm; clear hw; subst hw2))
  clear q0 q1 q2 q3 q4 q5 q6 q7 HMW hde
  have HB1 := hide ((X1.out.block P (lt_of_block HB.out)).trans HB.out)
  have R1 := hide (RW.out.below X1.out)
  have HC1 := hide (HCW.out.below X1.out)
  have XX1 := hide (bt XW.out X1.out (Nat.le_refl _))
  clear HB RW HCW XW X1
  have q0 : w1.cell? ⟨P, 0, none⟩ = some (.int .i64 6) := by rw [cell_of_row _ _ _ _ _ _ HB1.out]; rfl
  go_upto_region 3 with (go_at_call 138; refine (HH.out _).mono ?_; rintro e w2 ⟨rfl, x2⟩; have X2 := hide x2; clear x2)
  clear q0
  have HB2 := hide ((X2.out.block P (lt_of_block HB1.out)).trans HB1.out)
  have R2 := hide (R1.out.below X2.out)
  have HC2 := hide (HC1.out.below X2.out)
  have XX2 := hide (KpO.of_below (base := base) (wp := wp) (bt XX1.out X2.out (Nat.le_refl _)))
  clear HB1 R1 HC1 XX1 X2 HH
  by_cases hbr : 0 < place
  · rw [if_pos hbr] at ha hx
    have hbi : (0 : Int) < (place : Int) := by omega
    have HO := hide (other_ok R2.out ha)
    have HF := hide (fun V (r : WrA V base wp b.1 b.2) => other_ok r hx)
    clear ha hx hbr
    go_upto_region 5 with (go_at_call 105; refine HO.out.mono ?_; rintro e w3 ⟨rfl, r3, x3⟩; have R3 := hide r3; have X3 := hide x3; clear r3 x3)
    have HB3 := hide (X3.out.box HB2.out (by decide) (R2.out.ne HB2.out (by decide)))
    have HC3 := hide (HC2.out.kpo R2.out X3.out)
    have XX3 := hide (XX2.out.trans X3.out)
    clear HB2 R2 HC2 XX2 X3 HO
    have q0 : w3.cell? ⟨P, 0, none⟩ = some (.int .i64 6) := by rw [cell_of_row _ _ _ _ _ _ HB3.out]; rfl
    go_upto_region 11 with fail
    have XD : Hid (Below w3.heap.size w3 w3.drew) := (Below.refl _ _).drew
    have HQ : Hid (∀ V, Below w3.heap.size w3 V → V.cell? ⟨P, 0, none⟩ = some (.int .i64 6) ∧ V.cell? ⟨P, 1, none⟩ = some (.string ⟨nm.toArray⟩) ∧ V.cell? ⟨P, 2, none⟩ = some (.string ⟨tx.toArray⟩) ∧ V.cell? ⟨P, 3, none⟩ = some (.slice a3 npre c3) ∧ V.cell? ⟨P, 4, none⟩ = some (.slice a4 nsp c4) ∧ V.cell? ⟨P, 5, none⟩ = some (.slice a5 nns c5) ∧ V.cell? ⟨P, 6, none⟩ = some (.slice a6 nkids c6) ∧ V.cell? ⟨P, 7, none⟩ = some (.int .i64 cp)) := fun V y => ld8 ((y.block P (lt_of_block HB3.out)).trans HB3.out)
    have HOP := hide operators_any
    have hix := ixo0
    clear q0
    refine wp_unt (S := fun V => Below w3.heap.size w3 V) 6 (by kernel_rfl) ?_
    refine UntH.take (i := 0) (some 42) rfl rfl (by kernel_rfl) (by kernel_rfl) (by kernel_rfl) (by kernel_rfl) (fun _ _ _ _ h => h) (by rfl) XD.out ?_
    apply Exists.intro
    refine ⟨fun w' hw' => ?_, ?_⟩
    · obtain ⟨q0, q1, q2, q3, q4, q5, q6, q7⟩ := HQ.out w' hw'
      go_simp
      first | done | rfl
    try simp only [Act.put, List.setIfInBounds_toArray, List.set_cons_zero, List.set_cons_succ]
    refine UntH.take (i := 1) (some 43) rfl rfl (by kernel_rfl) (by kernel_rfl) (by kernel_rfl) (by kernel_rfl) (fun _ _ _ _ h => h) (by rfl) XD.out ?_
    apply Exists.intro
    refine ⟨fun w' hw' => ?_, ?_⟩
    · obtain ⟨q0, q1, q2, q3, q4, q5, q6, q7⟩ := HQ.out w' hw'
      go_simp
      first | done | rfl
    try simp only [Act.put, List.setIfInBounds_toArray, List.set_cons_zero, List.set_cons_succ]
    refine UntH.take (i := 3) (some 45) rfl rfl (by kernel_rfl) (by kernel_rfl) (by kernel_rfl) (by kernel_rfl) (fun _ _ _ _ h => h) (by rfl) XD.out ?_
    apply Exists.intro
    refine ⟨fun w' hw' => ?_, ?_⟩
    · obtain ⟨q0, q1, q2, q3, q4, q5, q6, q7⟩ := HQ.out w' hw'
      go_simp
      first | done | rfl
    try simp only [Act.put, List.setIfInBounds_toArray, List.set_cons_zero, List.set_cons_succ]
    refine UntH.take (i := 5) (some 47) rfl rfl (by kernel_rfl) (by kernel_rfl) (by kernel_rfl) (by kernel_rfl) (fun _ _ _ _ h => h) (by rfl) XD.out ?_
    apply Exists.intro
    refine ⟨fun w' hw' => ?_, ?_⟩
    · obtain ⟨q0, q1, q2, q3, q4, q5, q6, q7⟩ := HQ.out w' hw'
      go_simp
      first | done | rfl
    try simp only [Act.put, List.setIfInBounds_toArray, List.set_cons_zero, List.set_cons_succ]
    refine UntH.step (i := 2) (by kernel_rfl) rfl (fun K hK => ?_)
    go_simp
    refine (HOP.out _).mono ?_
    rintro e w4 ⟨rfl, x4⟩
    have X4 : Hid (Below w3.heap.size w3 w4) := bt XD.out x4 (Nat.le_refl _)
    refine hK _ _ X4.out ?_
    clear hK K x4
    try simp only [Act.put, List.setIfInBounds_toArray, List.set_cons_zero, List.set_cons_succ]
    refine UntH.take (i := 4) (some 46) rfl rfl (by kernel_rfl) (by kernel_rfl) (by kernel_rfl) (by kernel_rfl) (fun _ _ _ _ h => h) (by rfl) X4.out ?_
    apply Exists.intro
    refine ⟨fun w' hw' => ?_, ?_⟩
    · obtain ⟨q0, q1, q2, q3, q4, q5, q6, q7⟩ := HQ.out w' hw'
      go_simp
      first | done | rfl
    try simp only [Act.put, List.setIfInBounds_toArray, List.set_cons_zero, List.set_cons_succ]
    have HMC := hide (HMM.out _ (R3.out.below X4.out) (HC3.out.below X4.out))
    refine UntH.last (by kernel_rfl) rfl (by kernel_rfl) (by kernel_rfl) (fun K hK => ?_)
    go_simp
    refine HMC.out.mono ?_
    rintro e w5 ⟨rfl, r5, x5⟩
    refine hK _ _ ?_
    have R5 := hide r5
    have X5 := hide ((KpO.of_below (base := base) (wp := wp) X4.out).trans x5)
    clear hK K r5 x5 HMC hix
    go_wp2_with (go_at_call 105; refine (HF.out _ R5.out).mono ?_; rintro e w6 ⟨rfl, r6, x6⟩; have R6 := hide r6; have X6 := hide x6; clear r6 x6)
    go_end0
    exact ⟨rfl, R6.out, XX3.out.trans (X5.out.trans X6.out)⟩
  · rw [if_neg hbr] at ha hx
    have hbi : ¬ (0 : Int) < (place : Int) := by omega
    obtain rfl := Option.some.inj ha
    obtain rfl := Option.some.inj hx
    clear ha hx hbr
    have R3 := hide R2.out
    have HB3 := hide HB2.out
    have HC3 := hide HC2.out
    have XX3 := hide XX2.out
    clear R2 HB2 HC2 XX2
    go_upto_region 5 with fail
    have q0 : w2.cell? ⟨P, 0, none⟩ = some (.int .i64 6) := by rw [cell_of_row _ _ _ _ _ _ HB3.out]; rfl
    go_upto_region 11 with fail
    have XD : Hid (Below w2.heap.size w2 w2.drew) := (Below.refl _ _).drew
    have HQ : Hid (∀ V, Below w2.heap.size w2 V → V.cell? ⟨P, 0, none⟩ = some (.int .i64 6) ∧ V.cell? ⟨P, 1, none⟩ = some (.string ⟨nm.toArray⟩) ∧ V.cell? ⟨P, 2, none⟩ = some (.string ⟨tx.toArray⟩) ∧ V.cell? ⟨P, 3, none⟩ = some (.slice a3 npre c3) ∧ V.cell? ⟨P, 4, none⟩ = some (.slice a4 nsp c4) ∧ V.cell? ⟨P, 5, none⟩ = some (.slice a5 nns c5) ∧ V.cell? ⟨P, 6, none⟩ = some (.slice a6 nkids c6) ∧ V.cell? ⟨P, 7, none⟩ = some (.int .i64 cp)) := fun V y => ld8 ((y.block P (lt_of_block HB3.out)).trans HB3.out)
    have HOP := hide operators_any
    have hix := ixo0
    clear q0
    refine wp_unt (S := fun V => Below w2.heap.size w2 V) 6 (by kernel_rfl) ?_
    refine UntH.take (i := 0) (some 42) rfl rfl (by kernel_rfl) (by kernel_rfl) (by kernel_rfl) (by kernel_rfl) (fun _ _ _ _ h => h) (by rfl) XD.out ?_
    apply Exists.intro
    refine ⟨fun w' hw' => ?_, ?_⟩
    · obtain ⟨q0, q1, q2, q3, q4, q5, q6, q7⟩ := HQ.out w' hw'
      go_simp
      first | done | rfl
    try simp only [Act.put, List.setIfInBounds_toArray, List.set_cons_zero, List.set_cons_succ]
    refine UntH.take (i := 1) (some 43) rfl rfl (by kernel_rfl) (by kernel_rfl) (by kernel_rfl) (by kernel_rfl) (fun _ _ _ _ h => h) (by rfl) XD.out ?_
    apply Exists.intro
    refine ⟨fun w' hw' => ?_, ?_⟩
    · obtain ⟨q0, q1, q2, q3, q4, q5, q6, q7⟩ := HQ.out w' hw'
      go_simp
      first | done | rfl
    try simp only [Act.put, List.setIfInBounds_toArray, List.set_cons_zero, List.set_cons_succ]
    refine UntH.take (i := 3) (some 45) rfl rfl (by kernel_rfl) (by kernel_rfl) (by kernel_rfl) (by kernel_rfl) (fun _ _ _ _ h => h) (by rfl) XD.out ?_
    apply Exists.intro
    refine ⟨fun w' hw' => ?_, ?_⟩
    · obtain ⟨q0, q1, q2, q3, q4, q5, q6, q7⟩ := HQ.out w' hw'
      go_simp
      first | done | rfl
    try simp only [Act.put, List.setIfInBounds_toArray, List.set_cons_zero, List.set_cons_succ]
    refine UntH.take (i := 5) (some 47) rfl rfl (by kernel_rfl) (by kernel_rfl) (by kernel_rfl) (by kernel_rfl) (fun _ _ _ _ h => h) (by rfl) XD.out ?_
    apply Exists.intro
    refine ⟨fun w' hw' => ?_, ?_⟩
    · obtain ⟨q0, q1, q2, q3, q4, q5, q6, q7⟩ := HQ.out w' hw'
      go_simp
      first | done | rfl
    try simp only [Act.put, List.setIfInBounds_toArray, List.set_cons_zero, List.set_cons_succ]
    refine UntH.step (i := 2) (by kernel_rfl) rfl (fun K hK => ?_)
    go_simp
    refine (HOP.out _).mono ?_
    rintro e w4 ⟨rfl, x4⟩
    have X4 : Hid (Below w2.heap.size w2 w4) := bt XD.out x4 (Nat.le_refl _)
    refine hK _ _ X4.out ?_
    clear hK K x4
    try simp only [Act.put, List.setIfInBounds_toArray, List.set_cons_zero, List.set_cons_succ]
    refine UntH.take (i := 4) (some 46) rfl rfl (by kernel_rfl) (by kernel_rfl) (by kernel_rfl) (by kernel_rfl) (fun _ _ _ _ h => h) (by rfl) X4.out ?_
    apply Exists.intro
    refine ⟨fun w' hw' => ?_, ?_⟩
    · obtain ⟨q0, q1, q2, q3, q4, q5, q6, q7⟩ := HQ.out w' hw'
      go_simp
      first | done | rfl
    try simp only [Act.put, List.setIfInBounds_toArray, List.set_cons_zero, List.set_cons_succ]
    have HMC := hide (HMM.out _ (R3.out.below X4.out) (HC3.out.below X4.out))
    refine UntH.last (by kernel_rfl) rfl (by kernel_rfl) (by kernel_rfl) (fun K hK => ?_)
    go_simp
    refine HMC.out.mono ?_
    rintro e w5 ⟨rfl, r5, x5⟩
    refine hK _ _ ?_
    have R5 := hide r5
    have X5 := hide ((KpO.of_below (base := base) (wp := wp) X4.out).trans x5)
    clear hK K r5 x5 HMC hix
    go_wp2
    go_end0
    exact ⟨rfl, R5.out, XX3.out.trans X5.out⟩
set_option maxRecDepth 100000 in
set_option maxHeartbeats 8000000 in
theorem cond_port {w : World} {base wp b0 deep place : Nat} {c : CT} {vs : List Value} {bs : List Nat} {s x : WS} {M : WS → Option WS} (hk : c.k = 8) (hdp : deep ≤ 16) (hp : place ≤ 3) (hno : NoM c) (h : WrA w base wp s.1 s.2) (hc : CtAt w b0 c vs bs)
    (hM : ∀ (V : World) (a b : WS), WrA V base wp a.1 a.2 → CtAt V b0 c vs bs → M a = some b → Calls Tryz.prog 141 #[.pointer (some ⟨wp, 0, none⟩), .agg vs.toArray] V (PostW base wp V b))
    (hx0 : ((if 3 < place then othW [40] s else some s).bind fun a => (M a).bind fun b => if 3 < place then othW [41] b else some b) = some x) :
    Calls Tryz.prog 106 #[.pointer (some ⟨wp, 0, none⟩), .agg vs.toArray, .int .i64 (place : Nat), .int .i64 (deep : Nat)] w (PostW base wp w x) := by
  obtain ⟨a, ha, hx1⟩ := Option.bind_eq_some_iff.1 hx0
  obtain ⟨b, hb, hx⟩ := Option.bind_eq_some_iff.1 hx1
  clear hx0 hx1
  have HMN := hide (fun V (y : Below w.heap.size w V) => more_no (hc.below y) hno)
  have HCT := hide hc
  obtain ⟨a3, c3, a4, c4, a5, c5, a6, c6, rfl⟩ := hc.eight
  rw [hk] at HMN HCT hM ⊢
  have XW := hide (show Below w.heap.size w (w.alloc (.cells #[.int .i64 8, .string ⟨c.nm.toArray⟩, .string ⟨c.tx.toArray⟩, .slice a3 c.pre.length c3, .slice a4 c.sp.length c4, .slice a5 c.ns.length c5, .slice a6 c.kids.length c6, .int .i64 c.p] 60)) from al (Below.refl _ _) _)
  have HB := hide (heap_alloc_new w (.cells #[.int .i64 8, .string ⟨c.nm.toArray⟩, .string ⟨c.tx.toArray⟩, .slice a3 c.pre.length c3, .slice a4 c.sp.length c4, .slice a5 c.ns.length c5, .slice a6 c.kids.length c6, .int .i64 c.p] 60))
  have HMM := hide (fun V r k => hM V a b r k hb)
  have RW := hide (h.below XW.out)
  have HCW := hide (HCT.out.below XW.out)
  have HMW := hide (HMN.out _ XW.out)
  have HM := hide must_ok
  have HH : Hid (∀ V, Calls Tryz.prog 138 #[.int .i64 8] V fun e w' => e = .returned (.int .i64 3) ∧ Below V.heap.size V w') := fun V => holds_any 8 V
  have hde : (deep : Int) ≤ 16 := by omega
  clear hc hno hM hb h HCT HMN hdp
  generalize c.nm = nm at *
  generalize c.tx = tx at *
  generalize c.p = cp at *
  generalize c.pre.length = npre at *
  generalize c.sp.length = nsp at *
  generalize c.ns.length = nns at *
  generalize c.kids.length = nkids at *
  obtain ⟨P, hP⟩ : ∃ P, P = w.heap.size := ⟨_, rfl⟩
  go_enter Tryz.func106, Tryz.ntmps106
  go_upto_region 1 with fail
  rw [← hP] at HB ⊢
  clear hP
  generalize w.alloc (.cells #[.int .i64 8, .string ⟨nm.toArray⟩, .string ⟨tx.toArray⟩, .slice a3 npre c3, .slice a4 nsp c4, .slice a5 nns c5, .slice a6 nkids c6, .int .i64 cp] 60) = W at *
  obtain ⟨q0, q1, q2, q3, q4, q5, q6, q7⟩ := ld8 HB.out
  go_upto_region 2 with (first | (go_at_call 137; refine HMW.out.mono ?_; rintro e w1 ⟨rfl, x1⟩; have X1 := hide x1; clear x1) | (go_at_call 65; refine (HM.out _).mono ?_; rintro e w2 ⟨rfl, hw⟩; have hw2 := hw.symm; clear hw; subst hw2))
  clear q0 q1 q2 q3 q4 q5 q6 q7 HMW hde
  have HB1 := hide ((X1.out.block P (lt_of_block HB.out)).trans HB.out)
  have R1 := hide (RW.out.below X1.out)
  have HC1 := hide (HCW.out.below X1.out)
  have XX1 := hide (bt XW.out X1.out (Nat.le_refl _))
  clear HB RW HCW XW X1
  have q0 : w1.cell? ⟨P, 0, none⟩ = some (.int .i64 8) := by rw [cell_of_row _ _ _ _ _ _ HB1.out]; rfl
  go_upto_region 3 with (go_at_call 138; refine (HH.out _).mono ?_; rintro e w2 ⟨rfl, x2⟩; have X2 := hide x2; clear x2)
  clear q0
  have HB2 := hide ((X2.out.block P (lt_of_block HB1.out)).trans HB1.out)
  have R2 := hide (R1.out.below X2.out)
  have HC2 := hide (HC1.out.below X2.out)
  have XX2 := hide (KpO.of_below (base := base) (wp := wp) (bt XX1.out X2.out (Nat.le_refl _)))
  clear HB1 R1 HC1 XX1 X2 HH
  by_cases hbr : 3 < place
  · exact absurd hbr (by omega)
  · rw [if_neg hbr] at ha hx
    have hbi : ¬ (3 : Int) < (place : Int) := by omega
    obtain rfl := Option.some.inj ha
    obtain rfl := Option.some.inj hx
    clear ha hx hbr
    have R3 := hide R2.out
    have HB3 := hide HB2.out
    have HC3 := hide HC2.out
    have XX3 := hide XX2.out
    clear R2 HB2 HC2 XX2
    go_upto_region 5 with fail
    obtain ⟨q0, q1, q2, q3, q4, q5, q6, q7⟩ := ld8 HB3.out
    have HMC := hide (HMM.out _ R3.out HC3.out)
    go_upto_region 14 with (go_at_call 141; refine HMC.out.mono ?_; rintro e w5 ⟨rfl, r5, x5⟩; have R5 := hide r5; have X5 := hide x5; clear r5 x5)
    clear q0 q1 q2 q3 q4 q5 q6 q7 HMC
    go_wp2
    go_end0
    exact ⟨rfl, R5.out, XX3.out.trans X5.out⟩
end Go.Proofs.YtlmhofjiobmodaaGreatDoor
