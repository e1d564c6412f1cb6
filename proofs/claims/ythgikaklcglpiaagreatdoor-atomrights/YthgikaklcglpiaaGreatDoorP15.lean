/-
  Holds of any kind; hasMore of a condition that has no more than its kind has. No condition.
-/
import Derived.Test.YthgikaklcglpiaaGreatDoorP14
namespace Go.Proofs.YthgikaklcglpiaaGreatDoor.L9
open Go.RowKit Go.Lib

def hldZ (k : Int) : Nat := if k = 6 then 0 else if k = 5 then 1 else if k = 4 then 2 else 3
set_option maxRecDepth 100000 in
set_option maxHeartbeats 2000000 in
theorem holds_any (ck : Int) (w : World) : Calls Tryz.prog 298 #[.int .i64 ck] w fun e w' => e = .returned (.int .i64 (hldZ ck : Nat)) ∧ Below w.heap.size w w' := by
  have HO := hide (operators_any w)
  go_enter Tryz.func298, Tryz.ntmps298
  go_upto_region 2 with (go_at_call 300; refine HO.out.mono ?_; rintro e w1 ⟨rfl, x1⟩; have X1 := hide x1; clear x1)
  have HB := hide (heap_alloc_new w1 (.cells #[.string ⟨#[111, 114]⟩, .int .i64 6, .int .i64 1, .string ⟨#[97, 110, 100]⟩, .int .i64 5, .int .i64 2, .string ⟨#[110, 111, 116]⟩, .int .i64 4, .int .i64 2] 289))
  have X2 := hide (bt X1.out (show Below w1.heap.size w1 (w1.alloc (.cells #[.string ⟨#[111, 114]⟩, .int .i64 6, .int .i64 1, .string ⟨#[97, 110, 100]⟩, .int .i64 5, .int .i64 2, .string ⟨#[110, 111, 116]⟩, .int .i64 4, .int .i64 2] 289)) from al (Below.refl _ _) _) (Nat.le_refl _))
  generalize w1.alloc (.cells #[.string ⟨#[111, 114]⟩, .int .i64 6, .int .i64 1, .string ⟨#[97, 110, 100]⟩, .int .i64 5, .int .i64 2, .string ⟨#[110, 111, 116]⟩, .int .i64 4, .int .i64 2] 289) = w2 at *
  have q : ∀ j, w2.cell? ⟨w1.heap.size, j, none⟩ = #[.string ⟨#[111, 114]⟩, .int .i64 6, .int .i64 1, .string ⟨#[97, 110, 100]⟩, .int .i64 5, .int .i64 2, .string ⟨#[110, 111, 116]⟩, .int .i64 4, .int .i64 2][j]? := fun j => by rw [cell_of_row _ _ _ _ _ _ HB.out]
  have q0 := q 0
  have q1 := q 1
  have q2 := q 2
  have q3 := q 3
  have q4 := q 4
  have q5 := q 5
  have q6 := q 6
  have q7 := q 7
  have q8 := q 8
  clear q
  simp at q0 q1 q2 q3 q4 q5 q6 q7 q8
  go_wp2
  clear q0 q1 q2 q3 q4 q5 q6 q7 q8 HB
  go_loopg [8] 5 (fun gg x wr => ∃ k : Nat, x = .int .i64 (k : Nat) ∧ k ≤ 3 ∧ Hid ((1 ≤ k → ck ≠ 6) ∧ (2 ≤ k → ck ≠ 5) ∧ (3 ≤ k → ck ≠ 4)) ∧ Hid (Below w.heap.size w wr) ∧ 4 - k < gg)
  case atStart => exact ⟨0, rfl, by omega, hide ⟨fun h => by omega, fun h => by omega, fun h => by omega⟩, X2, by omega⟩
  case round =>
    obtain ⟨k, rfl, hk, HN, XR, hg⟩ := hrel
    have HG := hide hg
    clear hg
    rcases (by omega : k = 0 ∨ k = 1 ∨ k = 2 ∨ k = 3) with rfl | rfl | rfl | rfl
    · clear hk
      have ix := ixo0
      by_cases he : ck = 6
      · subst he
        go_wp2
        go_ret
        exact ⟨rfl, al XR.out _⟩
      · have hb : ((6 : Int) == ck) = false := by simpa using fun h => he h.symm
        have HE := hide he
        clear he
        go_wp2
        go_roundg 4
        case measure => have := HG.out; omega
        case rel => exact ⟨1, by first | rfl | go_num, by omega, hide ⟨fun _ => HE.out, fun h => by omega, fun h => by omega⟩, (by first | exact al XR.out _ | exact hide (al XR.out _)), by omega⟩
    · clear hk
      have ix := ixo1
      by_cases he : ck = 5
      · subst he
        go_wp2
        go_ret
        exact ⟨rfl, al XR.out _⟩
      · have hb : ((5 : Int) == ck) = false := by simpa using fun h => he h.symm
        have HE := hide he
        clear he
        go_wp2
        go_roundg 3
        case measure => have := HG.out; omega
        case rel => exact ⟨2, by first | rfl | go_num, by omega, hide ⟨fun _ => HN.out.1 (by omega), fun h => HE.out, fun h => by omega⟩, (by first | exact al XR.out _ | exact hide (al XR.out _)), by omega⟩
    · clear hk
      have ix := ixo2
      by_cases he : ck = 4
      · subst he
        go_wp2
        go_ret
        exact ⟨rfl, al XR.out _⟩
      · have hb : ((4 : Int) == ck) = false := by simpa using fun h => he h.symm
        have HE := hide he
        clear he
        go_wp2
        go_roundg 2
        case measure => have := HG.out; omega
        case rel => exact ⟨3, by first | rfl | go_num, by omega, hide ⟨fun _ => HN.out.1 (by omega), fun _ => HN.out.2.1 (by omega), fun _ => HE.out⟩, (by first | exact al XR.out _ | exact hide (al XR.out _)), by omega⟩
    · clear hk
      have HR : Hid (hldZ ck = 3) := by
        unfold Hid hldZ
        rw [if_neg (HN.out.1 (by omega)), if_neg (HN.out.2.1 (by omega)), if_neg (HN.out.2.2 (by omega))]
      go_wp2
      go_ret
      exact ⟨by rw [HR.out]; rfl, XR.out⟩
end Go.Proofs.YthgikaklcglpiaaGreatDoor.L9
/-
  hasMore, cond of a test of ports, of methods, of a header that there is, where they go well. Condition: as in the texts before.
-/
namespace Go.Proofs.YthgikaklcglpiaaGreatDoor.L9
open Go.RowKit Go.Lib

/-- No more than its kind has. -/
def NoM (c : CT) : Prop := c.k = 8 ∧ c.nm = [] ∧ c.tx = [] ∧ c.pre = [] ∧ c.ns = [] ∧ c.kids = [] ∨ c.k = 9 ∧ c.nm = [] ∧ c.tx = [] ∧ c.pre = [] ∧ c.sp = [] ∧ c.kids = [] ∨ c.k = 12 ∧ c.tx = [] ∧ c.pre = [] ∧ c.sp = [] ∧ c.ns = [] ∧ c.kids = []
set_option maxRecDepth 100000 in
set_option maxHeartbeats 4000000 in
theorem more_no {w : World} {base : Nat} {c : CT} {vs : List Value} {bs : List Nat} (hc : CtAt w base c vs bs) (hn : NoM c) : Calls Tryz.prog 297 #[.agg vs.toArray] w fun e w' => e = .returned (.bool false) ∧ Below w.heap.size w w' := by
  obtain ⟨a3, c3, a4, c4, a5, c5, a6, c6, rfl⟩ := hc.eight
  clear hc
  cases c with
  | mk k nm tx pre sp ns kids p =>
  unfold NoM at hn
  simp only [CT.k, CT.nm, CT.tx, CT.pre, CT.sp, CT.ns, CT.kids, CT.p] at hn ⊢
  have hb : ∀ (o : Obj), Below w.heap.size w (w.alloc o) := fun o => al (Below.refl _ _) o
  rcases hn with ⟨rfl, rfl, rfl, rfl, rfl, rfl⟩ | ⟨rfl, rfl, rfl, rfl, rfl, rfl⟩ | ⟨rfl, rfl, rfl, rfl, rfl, rfl⟩
  · have HB := hide (heap_alloc_new w (.cells #[.int .i64 8, .string ⟨#[]⟩, .string ⟨#[]⟩, .slice a3 0 c3, .slice a4 sp.length c4, .slice a5 0 c5, .slice a6 0 c6, .int .i64 p] 27))
    have XW := hide (hb (.cells #[.int .i64 8, .string ⟨#[]⟩, .string ⟨#[]⟩, .slice a3 0 c3, .slice a4 sp.length c4, .slice a5 0 c5, .slice a6 0 c6, .int .i64 p] 27))
    obtain ⟨P, hP⟩ : ∃ P, P = w.heap.size := ⟨_, rfl⟩
    go_enter Tryz.func297, Tryz.ntmps297
    go_upto_region 1 with fail
    rw [← hP] at HB ⊢
    have HPW : Hid (w.heap.size ≤ P) := by unfold Hid; omega
    clear hP hb
    try simp only [List.length_nil] at HB XW
    generalize w.alloc (.cells #[.int .i64 8, .string ⟨#[]⟩, .string ⟨#[]⟩, .slice a3 0 c3, .slice a4 sp.length c4, .slice a5 0 c5, .slice a6 0 c6, .int .i64 p] 27) = W at *
    obtain ⟨q0, q1, q2, q3, q4, q5, q6, q7⟩ := ld8 HB.out
    have f1 := frozen_of_row W P 4 _ _ HB.out
    go_upto_region 19 with fail
    have HB2 : Hid ((W.setCell ⟨P, 4, none⟩ (.slice none 0 0)).heap[P]? = some (.cells #[.int .i64 8, .string ⟨#[]⟩, .string ⟨#[]⟩, .slice a3 0 c3, .slice none 0 0, .slice a5 0 c5, .slice a6 0 c6, .int .i64 p] 27 (0, 0))) := by
      have := block_setCell' HB.out 4 (.slice none 0 0)
      simpa [Hid] using this
    have X2 := hide (XW.out.setCell (p := ⟨P, 4, none⟩) HPW.out (.slice none 0 0))
    clear q0 q1 q2 q3 q4 q5 q6 q7 f1 HB XW
    generalize W.setCell ⟨P, 4, none⟩ (.slice none 0 0) = W2 at *
    obtain ⟨q0, q1, q2, q3, q4, q5, q6, q7⟩ := ld8 HB2.out
    go_wp2
    go_ret
    exact ⟨rfl, X2.out⟩
  · have HB := hide (heap_alloc_new w (.cells #[.int .i64 9, .string ⟨#[]⟩, .string ⟨#[]⟩, .slice a3 0 c3, .slice a4 0 c4, .slice a5 ns.length c5, .slice a6 0 c6, .int .i64 p] 27))
    have XW := hide (hb (.cells #[.int .i64 9, .string ⟨#[]⟩, .string ⟨#[]⟩, .slice a3 0 c3, .slice a4 0 c4, .slice a5 ns.length c5, .slice a6 0 c6, .int .i64 p] 27))
    obtain ⟨P, hP⟩ : ∃ P, P = w.heap.size := ⟨_, rfl⟩
    go_enter Tryz.func297, Tryz.ntmps297
    go_upto_region 1 with fail
    rw [← hP] at HB ⊢
    have HPW : Hid (w.heap.size ≤ P) := by unfold Hid; omega
    clear hP hb
    try simp only [List.length_nil] at HB XW
    generalize w.alloc (.cells #[.int .i64 9, .string ⟨#[]⟩, .string ⟨#[]⟩, .slice a3 0 c3, .slice a4 0 c4, .slice a5 ns.length c5, .slice a6 0 c6, .int .i64 p] 27) = W at *
    obtain ⟨q0, q1, q2, q3, q4, q5, q6, q7⟩ := ld8 HB.out
    have f1 := frozen_of_row W P 5 _ _ HB.out
    go_upto_region 19 with fail
    have HB2 : Hid ((W.setCell ⟨P, 5, none⟩ (.slice none 0 0)).heap[P]? = some (.cells #[.int .i64 9, .string ⟨#[]⟩, .string ⟨#[]⟩, .slice a3 0 c3, .slice a4 0 c4, .slice none 0 0, .slice a6 0 c6, .int .i64 p] 27 (0, 0))) := by
      have := block_setCell' HB.out 5 (.slice none 0 0)
      simpa [Hid] using this
    have X2 := hide (XW.out.setCell (p := ⟨P, 5, none⟩) HPW.out (.slice none 0 0))
    clear q0 q1 q2 q3 q4 q5 q6 q7 f1 HB XW
    generalize W.setCell ⟨P, 5, none⟩ (.slice none 0 0) = W2 at *
    obtain ⟨q0, q1, q2, q3, q4, q5, q6, q7⟩ := ld8 HB2.out
    go_wp2
    go_ret
    exact ⟨rfl, X2.out⟩
  · have HB := hide (heap_alloc_new w (.cells #[.int .i64 12, .string ⟨nm.toArray⟩, .string ⟨#[]⟩, .slice a3 0 c3, .slice a4 0 c4, .slice a5 0 c5, .slice a6 0 c6, .int .i64 p] 27))
    have XW := hide (hb (.cells #[.int .i64 12, .string ⟨nm.toArray⟩, .string ⟨#[]⟩, .slice a3 0 c3, .slice a4 0 c4, .slice a5 0 c5, .slice a6 0 c6, .int .i64 p] 27))
    obtain ⟨P, hP⟩ : ∃ P, P = w.heap.size := ⟨_, rfl⟩
    go_enter Tryz.func297, Tryz.ntmps297
    go_upto_region 1 with fail
    rw [← hP] at HB ⊢
    have HPW : Hid (w.heap.size ≤ P) := by unfold Hid; omega
    clear hP hb
    try simp only [List.length_nil] at HB XW
    generalize w.alloc (.cells #[.int .i64 12, .string ⟨nm.toArray⟩, .string ⟨#[]⟩, .slice a3 0 c3, .slice a4 0 c4, .slice a5 0 c5, .slice a6 0 c6, .int .i64 p] 27) = W at *
    obtain ⟨q0, q1, q2, q3, q4, q5, q6, q7⟩ := ld8 HB.out
    have f1 := frozen_of_row W P 1 _ _ HB.out
    go_upto_region 19 with fail
    have HB2 : Hid ((W.setCell ⟨P, 1, none⟩ (.string ⟨#[]⟩)).heap[P]? = some (.cells #[.int .i64 12, .string ⟨#[]⟩, .string ⟨#[]⟩, .slice a3 0 c3, .slice a4 0 c4, .slice a5 0 c5, .slice a6 0 c6, .int .i64 p] 27 (0, 0))) := by
      have := block_setCell' HB.out 1 (.string ⟨#[]⟩)
      simpa [Hid] using this
    have X2 := hide (XW.out.setCell (p := ⟨P, 1, none⟩) HPW.out (.string ⟨#[]⟩))
    clear q0 q1 q2 q3 q4 q5 q6 q7 f1 HB XW
    generalize W.setCell ⟨P, 1, none⟩ (.string ⟨#[]⟩) = W2 at *
    obtain ⟨q0, q1, q2, q3, q4, q5, q6, q7⟩ := ld8 HB2.out
    go_wp2
    go_ret
    exact ⟨rfl, X2.out⟩
set_option maxRecDepth 100000 in
set_option maxHeartbeats 4000000 in
theorem cond_8 {w : World} {base wp b0 deep place : Nat} {c : CT} {vs : List Value} {bs : List Nat} {s x : WS} {M : WS → Option WS} (hk : c.k = 8) (hdp : deep ≤ 16) (hp : place ≤ 3) (hno : NoM c) (h : WrA w base wp s.1 s.2) (hc : CtAt w b0 c vs bs)
    (hM : ∀ (V : World) (a b : WS), WrA V base wp a.1 a.2 → CtAt V b0 c vs bs → M a = some b → Calls Tryz.prog 302 #[.pointer (some ⟨wp, 0, none⟩), .agg vs.toArray] V (PostW base wp V b))
    (hx0 : ((if 3 < place then othW [40] s else some s).bind fun a => (M a).bind fun b => if 3 < place then othW [41] b else some b) = some x) :
    Calls Tryz.prog 251 #[.pointer (some ⟨wp, 0, none⟩), .agg vs.toArray, .int .i64 (place : Nat), .int .i64 (deep : Nat)] w (PostW base wp w x) := by
  obtain ⟨a, ha, hx1⟩ := Option.bind_eq_some_iff.1 hx0
  obtain ⟨b, hb, hx⟩ := Option.bind_eq_some_iff.1 hx1
  clear hx0 hx1
  have HMN := hide (fun V (y : Below w.heap.size w V) => more_no (hc.below y) hno)
  have HCT := hide hc
  obtain ⟨a3, c3, a4, c4, a5, c5, a6, c6, rfl⟩ := hc.eight
  rw [hk] at HMN HCT hM ⊢
  have XW := hide (show Below w.heap.size w (w.alloc (.cells #[.int .i64 8, .string ⟨c.nm.toArray⟩, .string ⟨c.tx.toArray⟩, .slice a3 c.pre.length c3, .slice a4 c.sp.length c4, .slice a5 c.ns.length c5, .slice a6 c.kids.length c6, .int .i64 c.p] 27)) from al (Below.refl _ _) _)
  have HB := hide (heap_alloc_new w (.cells #[.int .i64 8, .string ⟨c.nm.toArray⟩, .string ⟨c.tx.toArray⟩, .slice a3 c.pre.length c3, .slice a4 c.sp.length c4, .slice a5 c.ns.length c5, .slice a6 c.kids.length c6, .int .i64 c.p] 27))
  have HMM := hide (fun V r k => hM V a b r k hb)
  have RW := hide (h.below XW.out)
  have HCW := hide (HCT.out.below XW.out)
  have HMW := hide (HMN.out _ XW.out)
  have HM := hide must_ok
  have HH : Hid (∀ V, Calls Tryz.prog 298 #[.int .i64 8] V fun e w' => e = .returned (.int .i64 3) ∧ Below V.heap.size V w') := fun V => holds_any 8 V
  have hde : (deep : Int) ≤ 16 := by omega
  clear hc hno hM hb h HCT HMN hdp
  generalize c.nm = nm at *
  generalize c.tx = tx at *
  generalize c.p = cp at *
  generalize c.pre.length = npre at *
  generalize c.sp.length = nsp at *
  generalize c.ns.length = nns at *
  generalize c.kids.length = nkids at *
  obtain ⟨P, hP⟩ : ∃ P, P = w.heap.size := ⟨_, rfl⟩
  go_enter Tryz.func251, Tryz.ntmps251
  go_upto_region 1 with fail
  rw [← hP] at HB ⊢
  clear hP
  generalize w.alloc (.cells #[.int .i64 8, .string ⟨nm.toArray⟩, .string ⟨tx.toArray⟩, .slice a3 npre c3, .slice a4 nsp c4, .slice a5 nns c5, .slice a6 nkids c6, .int .i64 cp] 27) = W at *
  obtain ⟨q0, q1, q2, q3, q4, q5, q6, q7⟩ := ld8 HB.out
  go_upto_region 2 with (first | (go_at_call 297; refine HMW.out.mono ?_; rintro e w1 ⟨rfl, x1⟩; have X1 := hide x1; clear x1) | (go_at_call 192; refine (HM.out _).mono ?_; rintro e w2 ⟨rfl, hw⟩; have hw2 := hw.symm; clear hw; subst hw2))
  clear q0 q1 q2 q3 q4 q5 q6 q7 HMW hde
  have HB1 := hide ((X1.out.block P (lt_of_block HB.out)).trans HB.out)
  have R1 := hide (RW.out.below X1.out)
  have HC1 := hide (HCW.out.below X1.out)
  have XX1 := hide (bt XW.out X1.out (Nat.le_refl _))
  clear HB RW HCW XW X1
  have q0 : w1.cell? ⟨P, 0, none⟩ = some (.int .i64 8) := by rw [cell_of_row _ _ _ _ _ _ HB1.out]; rfl
  go_upto_region 3 with (go_at_call 298; refine (HH.out _).mono ?_; rintro e w2 ⟨rfl, x2⟩; have X2 := hide x2; clear x2)
  clear q0
  have HB2 := hide ((X2.out.block P (lt_of_block HB1.out)).trans HB1.out)
  have R2 := hide (R1.out.below X2.out)
  have HC2 := hide (HC1.out.below X2.out)
  have XX2 := hide (KpO.of_below (base := base) (wp := wp) (bt XX1.out X2.out (Nat.le_refl _)))
  clear HB1 R1 HC1 XX1 X2 HH
  by_cases hbr : 3 < place
  · exact absurd hbr (by omega)
  · rw [if_neg hbr] at ha hx
    have hbi : ¬ (3 : Int) < (place : Int) := by omega
    obtain rfl := Option.some.inj ha
    obtain rfl := Option.some.inj hx
    clear ha hx hbr
    have R3 := hide R2.out
    have HB3 := hide HB2.out
    have HC3 := hide HC2.out
    have XX3 := hide XX2.out
    clear R2 HB2 HC2 XX2
    go_upto_region 5 with fail
    obtain ⟨q0, q1, q2, q3, q4, q5, q6, q7⟩ := ld8 HB3.out
    have HMC := hide (HMM.out _ R3.out HC3.out)
    go_upto_region 14 with (go_at_call 302; refine HMC.out.mono ?_; rintro e w5 ⟨rfl, r5, x5⟩; have R5 := hide r5; have X5 := hide x5; clear r5 x5)
    clear q0 q1 q2 q3 q4 q5 q6 q7 HMC
    go_wp2
    go_end0
    exact ⟨rfl, R5.out, XX3.out.trans X5.out⟩
set_option maxRecDepth 100000 in
set_option maxHeartbeats 4000000 in
theorem cond_9 {w : World} {base wp b0 deep place : Nat} {c : CT} {vs : List Value} {bs : List Nat} {s x : WS} {M : WS → Option WS} (hk : c.k = 9) (hdp : deep ≤ 16) (hp : place ≤ 3) (hno : NoM c) (h : WrA w base wp s.1 s.2) (hc : CtAt w b0 c vs bs)
    (hM : ∀ (V : World) (a b : WS), WrA V base wp a.1 a.2 → CtAt V b0 c vs bs → M a = some b → Calls Tryz.prog 302 #[.pointer (some ⟨wp, 0, none⟩), .agg vs.toArray] V (PostW base wp V b))
    (hx0 : ((if 3 < place then othW [40] s else some s).bind fun a => (M a).bind fun b => if 3 < place then othW [41] b else some b) = some x) :
    Calls Tryz.prog 251 #[.pointer (some ⟨wp, 0, none⟩), .agg vs.toArray, .int .i64 (place : Nat), .int .i64 (deep : Nat)] w (PostW base wp w x) := by
  obtain ⟨a, ha, hx1⟩ := Option.bind_eq_some_iff.1 hx0
  obtain ⟨b, hb, hx⟩ := Option.bind_eq_some_iff.1 hx1
  clear hx0 hx1
  have HMN := hide (fun V (y : Below w.heap.size w V) => more_no (hc.below y) hno)
  have HCT := hide hc
  obtain ⟨a3, c3, a4, c4, a5, c5, a6, c6, rfl⟩ := hc.eight
  rw [hk] at HMN HCT hM ⊢
  have XW := hide (show Below w.heap.size w (w.alloc (.cells #[.int .i64 9, .string ⟨c.nm.toArray⟩, .string ⟨c.tx.toArray⟩, .slice a3 c.pre.length c3, .slice a4 c.sp.length c4, .slice a5 c.ns.length c5, .slice a6 c.kids.length c6, .int .i64 c.p] 27)) from al (Below.refl _ _) _)
  have HB := hide (heap_alloc_new w (.cells #[.int .i64 9, .string ⟨c.nm.toArray⟩, .string ⟨c.tx.toArray⟩, .slice a3 c.pre.length c3, .slice a4 c.sp.length c4, .slice a5 c.ns.length c5, .slice a6 c.kids.length c6, .int .i64 c.p] 27))
  have HMM := hide (fun V r k => hM V a b r k hb)
  have RW := hide (h.below XW.out)
  have HCW := hide (HCT.out.below XW.out)
  have HMW := hide (HMN.out _ XW.out)
  have HM := hide must_ok
  have HH : Hid (∀ V, Calls Tryz.prog 298 #[.int .i64 9] V fun e w' => e = .returned (.int .i64 3) ∧ Below V.heap.size V w') := fun V => holds_any 9 V
  have hde : (deep : Int) ≤ 16 := by omega
  clear hc hno hM hb h HCT HMN hdp
  generalize c.nm = nm at *
  generalize c.tx = tx at *
  generalize c.p = cp at *
  generalize c.pre.length = npre at *
  generalize c.sp.length = nsp at *
  generalize c.ns.length = nns at *
  generalize c.kids.length = nkids at *
  obtain ⟨P, hP⟩ : ∃ P, P = w.heap.size := ⟨_, rfl⟩
  go_enter Tryz.func251, Tryz.ntmps251
  go_upto_region 1 with fail
  rw [← hP] at HB ⊢
  clear hP
  generalize w.alloc (.cells #[.int .i64 9, .string ⟨nm.toArray⟩, .string ⟨tx.toArray⟩, .slice a3 npre c3, .slice a4 nsp c4, .slice a5 nns c5, .slice a6 nkids c6, .int .i64 cp] 27) = W at *
  obtain ⟨q0, q1, q2, q3, q4, q5, q6, q7⟩ := ld8 HB.out
  go_upto_region 2 with (first | (go_at_call 297; refine HMW.out.mono ?_; rintro e w1 ⟨rfl, x1⟩; have X1 := hide x1; clear x1) | (go_at_call 192; refine (HM.out _).mono ?_; rintro e w2 ⟨rfl, hw⟩; have hw2 := hw.symm; clear hw; subst hw2))
  clear q0 q1 q2 q3 q4 q5 q6 q7 HMW hde
  have HB1 := hide ((X1.out.block P (lt_of_block HB.out)).trans HB.out)
  have R1 := hide (RW.out.below X1.out)
  have HC1 := hide (HCW.out.below X1.out)
  have XX1 := hide (bt XW.out X1.out (Nat.le_refl _))
  clear HB RW HCW XW X1
  have q0 : w1.cell? ⟨P, 0, none⟩ = some (.int .i64 9) := by rw [cell_of_row _ _ _ _ _ _ HB1.out]; rfl
  go_upto_region 3 with (go_at_call 298; refine (HH.out _).mono ?_; rintro e w2 ⟨rfl, x2⟩; have X2 := hide x2; clear x2)
  clear q0
  have HB2 := hide ((X2.out.block P (lt_of_block HB1.out)).trans HB1.out)
  have R2 := hide (R1.out.below X2.out)
  have HC2 := hide (HC1.out.below X2.out)
  have XX2 := hide (KpO.of_below (base := base) (wp := wp) (bt XX1.out X2.out (Nat.le_refl _)))
  clear HB1 R1 HC1 XX1 X2 HH
  by_cases hbr : 3 < place
  · exact absurd hbr (by omega)
  · rw [if_neg hbr] at ha hx
    have hbi : ¬ (3 : Int) < (place : Int) := by omega
    obtain rfl := Option.some.inj ha
    obtain rfl := Option.some.inj hx
    clear ha hx hbr
    have R3 := hide R2.out
    have HB3 := hide HB2.out
    have HC3 := hide HC2.out
    have XX3 := hide XX2.out
    clear R2 HB2 HC2 XX2
    go_upto_region 5 with fail
    obtain ⟨q0, q1, q2, q3, q4, q5, q6, q7⟩ := ld8 HB3.out
    have HMC := hide (HMM.out _ R3.out HC3.out)
    go_upto_region 14 with (go_at_call 302; refine HMC.out.mono ?_; rintro e w5 ⟨rfl, r5, x5⟩; have R5 := hide r5; have X5 := hide x5; clear r5 x5)
    clear q0 q1 q2 q3 q4 q5 q6 q7 HMC
    go_wp2
    go_end0
    exact ⟨rfl, R5.out, XX3.out.trans X5.out⟩
set_option maxRecDepth 100000 in
set_option maxHeartbeats 4000000 in
theorem cond_12 {w : World} {base wp b0 deep place : Nat} {c : CT} {vs : List Value} {bs : List Nat} {s x : WS} {M : WS → Option WS} (hk : c.k = 12) (hdp : deep ≤ 16) (hp : place ≤ 3) (hno : NoM c) (h : WrA w base wp s.1 s.2) (hc : CtAt w b0 c vs bs)
    (hM : ∀ (V : World) (a b : WS), WrA V base wp a.1 a.2 → CtAt V b0 c vs bs → M a = some b → Calls Tryz.prog 302 #[.pointer (some ⟨wp, 0, none⟩), .agg vs.toArray] V (PostW base wp V b))
    (hx0 : ((if 3 < place then othW [40] s else some s).bind fun a => (M a).bind fun b => if 3 < place then othW [41] b else some b) = some x) :
    Calls Tryz.prog 251 #[.pointer (some ⟨wp, 0, none⟩), .agg vs.toArray, .int .i64 (place : Nat), .int .i64 (deep : Nat)] w (PostW base wp w x) := by
  obtain ⟨a, ha, hx1⟩ := Option.bind_eq_some_iff.1 hx0
  obtain ⟨b, hb, hx⟩ := Option.bind_eq_some_iff.1 hx1
  clear hx0 hx1
  have HMN := hide (fun V (y : Below w.heap.size w V) => more_no (hc.below y) hno)
  have HCT := hide hc
  obtain ⟨a3, c3, a4, c4, a5, c5, a6, c6, rfl⟩ := hc.eight
  rw [hk] at HMN HCT hM ⊢
  have XW := hide (show Below w.heap.size w (w.alloc (.cells #[.int .i64 12, .string ⟨c.nm.toArray⟩, .string ⟨c.tx.toArray⟩, .slice a3 c.pre.length c3, .slice a4 c.sp.length c4, .slice a5 c.ns.length c5, .slice a6 c.kids.length c6, .int .i64 c.p] 27)) from al (Below.refl _ _) _)
  have HB := hide (heap_alloc_new w (.cells #[.int .i64 12, .string ⟨c.nm.toArray⟩, .string ⟨c.tx.toArray⟩, .slice a3 c.pre.length c3, .slice a4 c.sp.length c4, .slice a5 c.ns.length c5, .slice a6 c.kids.length c6, .int .i64 c.p] 27))
  have HMM := hide (fun V r k => hM V a b r k hb)
  have RW := hide (h.below XW.out)
  have HCW := hide (HCT.out.below XW.out)
  have HMW := hide (HMN.out _ XW.out)
  have HM := hide must_ok
  have HH : Hid (∀ V, Calls Tryz.prog 298 #[.int .i64 12] V fun e w' => e = .returned (.int .i64 3) ∧ Below V.heap.size V w') := fun V => holds_any 12 V
  have hde : (deep : Int) ≤ 16 := by omega
  clear hc hno hM hb h HCT HMN hdp
  generalize c.nm = nm at *
  generalize c.tx = tx at *
  generalize c.p = cp at *
  generalize c.pre.length = npre at *
  generalize c.sp.length = nsp at *
  generalize c.ns.length = nns at *
  generalize c.kids.length = nkids at *
  obtain ⟨P, hP⟩ : ∃ P, P = w.heap.size := ⟨_, rfl⟩
  go_enter Tryz.func251, Tryz.ntmps251
  go_upto_region 1 with fail
  rw [← hP] at HB ⊢
  clear hP
  generalize w.alloc (.cells #[.int .i64 12, .string ⟨nm.toArray⟩, .string ⟨tx.toArray⟩, .slice a3 npre c3, .slice a4 nsp c4, .slice a5 nns c5, .slice a6 nkids c6, .int .i64 cp] 27) = W at *
  obtain ⟨q0, q1, q2, q3, q4, q5, q6, q7⟩ := ld8 HB.out
  go_upto_region 2 with (first | (go_at_call 297; refine HMW.out.mono ?_; rintro e w1 ⟨rfl, x1⟩; have X1 := hide x1; clear x1) | (go_at_call 192; refine (HM.out _).mono ?_; rintro e w2 ⟨rfl, hw⟩; have hw2 := hw.symm; clear hw; subst hw2))
  clear q0 q1 q2 q3 q4 q5 q6 q7 HMW hde
  have HB1 := hide ((X1.out.block P (lt_of_block HB.out)).trans HB.out)
  have R1 := hide (RW.out.below X1.out)
  have HC1 := hide (HCW.out.below X1.out)
  have XX1 := hide (bt XW.out X1.out (Nat.le_refl _))
  clear HB RW HCW XW X1
  have q0 : w1.cell? ⟨P, 0, none⟩ = some (.int .i64 12) := by rw [cell_of_row _ _ _ _ _ _ HB1.out]; rfl
  go_upto_region 3 with (go_at_call 298; refine (HH.out _).mono ?_; rintro e w2 ⟨rfl, x2⟩; have X2 := hide x2; clear x2)
  clear q0
  have HB2 := hide ((X2.out.block P (lt_of_block HB1.out)).trans HB1.out)
  have R2 := hide (R1.out.below X2.out)
  have HC2 := hide (HC1.out.below X2.out)
  have XX2 := hide (KpO.of_below (base := base) (wp := wp) (bt XX1.out X2.out (Nat.le_refl _)))
  clear HB1 R1 HC1 XX1 X2 HH
  by_cases hbr : 3 < place
  · exact absurd hbr (by omega)
  · rw [if_neg hbr] at ha hx
    have hbi : ¬ (3 : Int) < (place : Int) := by omega
    obtain rfl := Option.some.inj ha
    obtain rfl := Option.some.inj hx
    clear ha hx hbr
    have R3 := hide R2.out
    have HB3 := hide HB2.out
    have HC3 := hide HC2.out
    have XX3 := hide XX2.out
    clear R2 HB2 HC2 XX2
    go_upto_region 5 with fail
    obtain ⟨q0, q1, q2, q3, q4, q5, q6, q7⟩ := ld8 HB3.out
    have HMC := hide (HMM.out _ R3.out HC3.out)
    go_upto_region 14 with (go_at_call 302; refine HMC.out.mono ?_; rintro e w5 ⟨rfl, r5, x5⟩; have R5 := hide r5; have X5 := hide x5; clear r5 x5)
    clear q0 q1 q2 q3 q4 q5 q6 q7 HMC
    go_wp2
    go_end0
    exact ⟨rfl, R5.out, XX3.out.trans X5.out⟩
def condW (c : CT) (s : WS) : Option WS := tstW c s
def CondOk (c : CT) : Prop := NoM c ∧ ∀ z ∈ c.sp, Dg3 z.1 ∧ Dg3 z.2
theorem cond_leaf {w : World} {base wp b0 deep : Nat} {c : CT} {vs : List Value} {bs : List Nat} {s x : WS} (hno : CondOk c) (hdp : deep ≤ 16) (h : WrA w base wp s.1 s.2) (hc : CtAt w b0 c vs bs) (hx : tstW c s = some x) :
    Calls Tryz.prog 251 #[.pointer (some ⟨wp, 0, none⟩), .agg vs.toArray, .int .i64 ((0 : Nat) : Int), .int .i64 (deep : Nat)] w (PostW base wp w x) := by
  have hx0 : ((if 3 < 0 then othW [40] s else some s).bind fun a => (tstW c a).bind fun b => if 3 < 0 then othW [41] b else some b) = some x := by
    rw [if_neg (by decide)]
    simp only [Option.bind_some, hx]
    rfl
  have hM : ∀ (V : World) (a b : WS), WrA V base wp a.1 a.2 → CtAt V b0 c vs bs → tstW c a = some b → Calls Tryz.prog 302 #[.pointer (some ⟨wp, 0, none⟩), .agg vs.toArray] V (PostW base wp V b) := fun V a b q1 q2 q3 => test_ok q1 q2 hno.2 q3
  rcases hno.1 with hk | hk | hk
  · exact cond_8 hk.1 hdp (by decide) hno.1 h hc hM hx0
  · exact cond_9 hk.1 hdp (by decide) hno.1 h hc hM hx0
  · exact cond_12 hk.1 hdp (by decide) hno.1 h hc hM hx0
end Go.Proofs.YthgikaklcglpiaaGreatDoor.L9
