/-
  laws by its contract: the laws of and, or, not; a ref put together again; its path. No condition.
-/
import Derived.Test.YtaafeflbanoncaaP39
import Derived.Test.YtaafeflbanoncaaP28
namespace Go.Proofs.Ytaafeflbanoncaa
open Go.RowKit Go.Lib Go.Maps

section
variable {w0 w w' : World} {a wb x ob m cap l : Nat} {S L : List Int} {M : Int} {N0 N N' : List Nd} {P0 P P' : Nat → Prop} {f g r : Int} {lv : Value}
theorem LI.trans (h : LI w0 a S M N0 P0 N P w) (k : LI w a S M N P N' P' w') : LI w0 a S M N0 P0 N' P' w' :=
  ⟨k.ca, h.kp.trans_new k.kp (fun b hb hP => (h.gw b hP).elim id (fun h2 => by omega)), h.gw.trans k.gw h.kp.size, h.ex.trans k.ex⟩
/-- What was answered once is answered again. -/
theorem LI.again (I : LI w0 a S M N0 P0 N P w) (hf : hasR N f) (hg : hasR N g) (hr : hasR N r) (hs : ∀ p, Pnt S p → sayR N p r = (sayR N p f || sayR N p g)) : Calls Try.prog 39 #[.pointer (some ⟨a, 0, none⟩), .int .i64 g, .int .i64 f] w fun e w' => e = .returned (.tuple #[.int .i64 r, .int .i64 0]) ∧ ∃ P', LI w0 a S M N0 P0 N P' w' := by
  refine (or_ok I.ca hg hf).mono fun e w' h => ?_
  have hi : ins S M N (fun p => (fun a b => a || b) (sayR N p g) (sayR N p f)) = (r, 0, N) := ins_rep I.ca.ok ⟨hr, fun p hp => by rw [hs p hp, Bool.or_comm]⟩
  obtain ⟨r', er, N', P', rfl, ca, k, gw, _, res⟩ := h
  rcases res with ⟨rfl, _, _, h1⟩ | ⟨_, _, _, N1, h1⟩
  · rw [hi] at h1
    obtain ⟨rfl, _, rfl⟩ := Prod.mk.inj h1 |>.imp id Prod.mk.inj
    exact ⟨rfl, P', ca, I.kp.trans_new k (fun b hb hP => (I.gw b hP).elim id (fun h2 => by omega)), I.gw.trans gw I.kp.size, I.ex⟩
  · rw [hi] at h1
    exact absurd (congrArg (fun x => x.2.1) h1) (by show ¬ (0 : Int) = 2; decide)
set_option maxRecDepth 100000 in
theorem path_zero (h : CA w a S M N m P) : Calls Try.prog 27 #[.pointer (some ⟨a, 0, none⟩), .int .i64 0] w fun e w' => e = .returned (.tuple #[.slice none 0 0, .bool false, .int .i64 0]) ∧ Below w.heap.size w w' := by
  have y1 : Below w.heap.size w (w.alloc (.cells #[.int .i64 0] 3)) := al (Below.refl _ _) _
  have X1 := hide y1
  have AT := hide (areThere_any (some ⟨w.heap.size, 0, none⟩) 1 [0] (by simp) (zat_new w [0]) (h.below y1))
  have HF : Hid (hasR N 0) := ⟨by omega, by omega⟩
  clear h y1
  go_enter Try.func27, Try.ntmps27
  go_wp2_with (go_at_call 59; refine AT.out.mono ?_; rintro e w1 ⟨⟨b, rfl, hb⟩, x1⟩; have hbt := hb.2 (by intro z hz; simp at hz; rw [hz]; exact HF.out); subst hbt; have X2 := hide (bt X1.out x1 (Nat.le_refl _)); clear hb x1)
  go_ret3
  exact ⟨rfl, X2.out⟩
theorem two_all {L : List Int} (h : ∀ x ∈ L, x = 0 ∨ x = 2) : ∀ i, i < L.length → L.getD i 0 = 0 ∨ L.getD i 0 = 2 := fun _ hi => h _ (getD_mem hi)
theorem room4 (W : World) {e1 e2 e3 e4 : Int} (h1 : e1 = 0 ∨ e1 = 2) (h2 : e2 = 0 ∨ e2 = 2) (h3 : e3 = 0 ∨ e3 = 2) (h4 : e4 = 0 ∨ e4 = 2) : Calls Try.prog 48 #[.slice (some ⟨W.heap.size, 0, none⟩) 4 4] (W.alloc (.cells #[.int .i64 e1, .int .i64 e2, .int .i64 e3, .int .i64 e4] 26)) fun e w' => e = .returned (.bool true) ∧ w' = W.alloc (.cells #[.int .i64 e1, .int .i64 e2, .int .i64 e3, .int .i64 e4] 26) :=
  room_ok (cap := 4) (L := [e1, e2, e3, e4]) (by simp) (zat_any W [e1, e2, e3, e4] 26) (two_all (fun x hx => by
    simp at hx
    rcases hx with rfl | rfl | rfl | rfl
    · exact h1
    · exact h2
    · exact h3
    · exact h4))
theorem upd_self (p : Nat → Nat) (l : Nat) : upd p l (p l) = p := by
  funext j
  unfold upd
  by_cases e : j = l
  · rw [if_pos e, e]
  · rw [if_neg e]
/-- A row of bools, one of them true. -/
def oneB (n k : Nat) : List Bool := (List.replicate n false).set k true
theorem oneB_length (n k : Nat) : (oneB n k).length = n := by simp [oneB]
theorem oneB_get {n k j : Nat} (hj : j < n) : (oneB n k).getD j false = decide (j = k) := by
  unfold oneB
  rw [List.getD_eq_getElem?_getD, List.getElem?_set]
  by_cases e : k = j
  · subst e; simp [hj]
  · have e2 : ¬ j = k := fun h => e h.symm
    simp [e, e2, hj]
theorem oneB_set {w1 : World} {nb n : Nat} (k : Nat) (b1 : w1.heap[nb]? = some (.cells (bC (List.replicate n false)).toArray 4 (0, 0))) : BAt (w1.setCell ⟨nb, k, none⟩ (.bool true)) (some ⟨nb, 0, none⟩) (oneB n k) := by
  have b2 : (w1.setCell ⟨nb, k, none⟩ (.bool true)).heap[nb]? = some (.cells (bC (oneB n k)).toArray 4 (0, 0)) := by
    rw [block_setCell b1 k]
    congr 2
    apply Array.ext'
    simp [bC, oneB, List.map_set]
  refine .inr ⟨nb, 0, rfl, lt_of_block b2, fun i hi => ?_⟩
  rw [Nat.zero_add, cell_of_row _ _ i _ _ _ b2, List.getElem?_toArray, bC_get _ hi]
set_option maxRecDepth 100000 in
set_option maxHeartbeats 8000000 in
theorem laws_ok (h : CA w a S M N m P) (hb : WBk w wb a x lv) (hn : ¬ P wb) (hf : hasR N f) (hg : hasR N g) (hl : l < S.length) :
    Calls Try.prog 18 #[.pointer (some ⟨wb, 0, none⟩), .int .i64 f, .int .i64 g, .int .i64 (l : Int)] w fun e w' => e = .returned (.bool true) ∧ ∃ N' P', LI w a S M N P N' P' w' := by
  have hs12 := h.ok.sz.le
  have hlS : (l : Int) < (S.length : Int) := by omega
  have I0 := hide (LI.of h)
  have HB := hide hb
  have HN := hide hn
  have HF := hide hf
  have HG := hide hg
  have HOK := hide h.ok
  obtain ⟨b0, b1, b2⟩ := hb.cells
  obtain ⟨s, hs⟩ : ∃ s : Nat, S.getD l 0 = (s : Int) := ⟨(S.getD l 0).toNat, by have := (h.ok.sz.each _ (getD_mem hl)).1; omega⟩
  have hs1 : s ≤ 256 := by have := (h.ok.sz.each _ (getD_mem hl)); omega
  have HS := hide hs
  have HLS := hide hl
  clear h hb hn hf hg hs
  go_enter Try.func18, Try.ntmps18
  go_upto_region 2 with fail
  clear b0 b1 b2
  have C1 := hide (I0.out.not (I0.out.ex.has HF.out))
  go_upto_region 3 with (go_at_call 25; refine C1.out.mono ?_; rintro e w1 ⟨r1, er1, N1, P1, rfl, i1, x1, h1, o1, k1⟩; have I1 := hide i1; have X1 := hide x1; have H1 := hide h1; have O1 := hide o1; have K1 := hide k1; clear i1 x1 h1 o1 k1)
  clear C1
  have C2 := hide (I1.out.not H1.out)
  go_upto_region 4 with (go_at_call 25; refine C2.out.mono ?_; rintro e w2 ⟨r2, er2, N2, P2, rfl, i2, x2, h2, o2, k2⟩; have I2 := hide i2; have X2 := hide x2; have H2 := hide h2; have O2 := hide o2; have K2 := hide k2; clear i2 x2 h2 o2 k2)
  clear C2
  have C3 := hide (I2.out.and (I2.out.ex.has HF.out) (I2.out.ex.has HG.out))
  go_upto_region 5 with (go_at_call 24; refine C3.out.mono ?_; rintro e w3 ⟨r3, er3, N3, P3, rfl, i3, x3, h3, o3, k3⟩; have I3 := hide i3; have X3 := hide x3; have H3 := hide h3; have O3 := hide o3; have K3 := hide k3; clear i3 x3 h3 o3 k3)
  clear C3
  have C4 := hide (I3.out.and (I3.out.ex.has HG.out) (I3.out.ex.has HF.out))
  go_upto_region 6 with (go_at_call 24; refine C4.out.mono ?_; rintro e w4 ⟨r4, er4, N4, P4, rfl, i4, x4, h4, o4, k4⟩; have I4 := hide i4; have X4 := hide x4; have H4 := hide h4; have O4 := hide o4; have K4 := hide k4; clear i4 x4 h4 o4 k4)
  clear C4
  have C5 := hide (I4.out.or (I4.out.ex.has HF.out) (I4.out.ex.has HG.out))
  go_upto_region 7 with (go_at_call 39; refine C5.out.mono ?_; rintro e w5 ⟨r5, er5, N5, P5, rfl, i5, x5, h5, o5, k5⟩; have I5 := hide i5; have X5 := hide x5; have H5 := hide h5; have O5 := hide o5; have K5 := hide k5; clear i5 x5 h5 o5 k5)
  clear C5
  have C6 := hide (I5.out.or (I5.out.ex.has HG.out) (I5.out.ex.has HF.out))
  go_upto_region 8 with (go_at_call 39; refine C6.out.mono ?_; rintro e w6 ⟨r6, er6, N6, P6, rfl, i6, x6, h6, o6, k6⟩; have I6 := hide i6; have X6 := hide x6; have H6 := hide h6; have O6 := hide o6; have K6 := hide k6; clear i6 x6 h6 o6 k6)
  clear C6
  have C7 := hide (I6.out.not (I6.out.ex.has HG.out))
  go_upto_region 9 with (go_at_call 25; refine C7.out.mono ?_; rintro e w7 ⟨r7, er7, N7, P7, rfl, i7, x7, h7, o7, k7⟩; have I7 := hide i7; have X7 := hide x7; have H7 := hide h7; have O7 := hide o7; have K7 := hide k7; clear i7 x7 h7 o7 k7)
  clear C7
  have C8 := hide (I7.out.and ((((((X2.out.trans X3.out).trans X4.out).trans X5.out).trans X6.out).trans X7.out).has H1.out) H7.out)
  go_upto_region 10 with (go_at_call 24; refine C8.out.mono ?_; rintro e w8 ⟨r8, er8, N8, P8, rfl, i8, x8, h8, o8, k8⟩; have I8 := hide i8; have X8 := hide x8; have H8 := hide h8; have O8 := hide o8; have K8 := hide k8; clear i8 x8 h8 o8 k8)
  clear C8
  have C9 := hide (I8.out.not H8.out)
  go_upto_region 11 with (go_at_call 25; refine C9.out.mono ?_; rintro e w9 ⟨r9, er9, N9, P9, rfl, i9, x9, h9, o9, k9⟩; have I9 := hide i9; have X9 := hide x9; have H9 := hide h9; have O9 := hide o9; have K9 := hide k9; clear i9 x9 h9 o9 k9)
  clear C9
  have C10 := hide (I9.out.and (I9.out.ex.has HF.out) ((((((((X2.out.trans X3.out).trans X4.out).trans X5.out).trans X6.out).trans X7.out).trans X8.out).trans X9.out).has H1.out))
  go_upto_region 12 with (go_at_call 24; refine C10.out.mono ?_; rintro e w10 ⟨r10, er10, N10, P10, rfl, i10, x10, h10, o10, k10⟩; have I10 := hide i10; have X10 := hide x10; have H10 := hide h10; have O10 := hide o10; have K10 := hide k10; clear i10 x10 h10 o10 k10)
  clear C10
  have ZT := hide (zat_any w10 [er1, er2, er3, er4, er5, er6, er7, er8, er9, er10] 26)
  have y11 : Below w10.heap.size w10 (w10.alloc (.cells #[.int .i64 er1, .int .i64 er2, .int .i64 er3, .int .i64 er4, .int .i64 er5, .int .i64 er6, .int .i64 er7, .int .i64 er8, .int .i64 er9, .int .i64 er10] 26)) := al (Below.refl _ _) _
  have I11 := hide (I10.out.below y11)
  clear y11
  go_upto_region 13 with fail
  have ZT2 : Hid (ZAt (w10.alloc (.cells #[.int .i64 er1, .int .i64 er2, .int .i64 er3, .int .i64 er4, .int .i64 er5, .int .i64 er6, .int .i64 er7, .int .i64 er8, .int .i64 er9, .int .i64 er10] 26)) (some ⟨w10.heap.size, 0, none⟩) [er1, er2, er3, er4, er5, er6, er7, er8, er9, er10]) := ZT.out
  clear ZT
  obtain ⟨T, hT⟩ : ∃ T, T = [er1, er2, er3, er4, er5, er6, er7, er8, er9, er10] := ⟨_, rfl⟩
  rw [← hT] at ZT2
  have HT := hide hT
  have hTl : T.length = 10 := by rw [hT]; rfl
  have TT : Hid (∀ i, i < T.length → T.getD i 0 = 0 ∨ T.getD i 0 = 2) := two_all (fun x hx => by
    rw [hT] at hx
    simp at hx
    rcases hx with rfl | rfl | rfl | rfl | rfl | rfl | rfl | rfl | rfl | rfl
    · exact O1.out
    · exact O2.out
    · exact O3.out
    · exact O4.out
    · exact O5.out
    · exact O6.out
    · exact O7.out
    · exact O8.out
    · exact O9.out
    · exact O10.out)
  clear hT
  generalize w10.alloc (.cells #[.int .i64 er1, .int .i64 er2, .int .i64 er3, .int .i64 er4, .int .i64 er5, .int .i64 er6, .int .i64 er7, .int .i64 er8, .int .i64 er9, .int .i64 er10] 26) = w11 at *
  generalize w10.heap.size = tb at *
  have RM := room_ok (cap := 10) (by omega) ZT2.out TT.out
  rw [hTl] at RM
  have HRM := hide RM
  have HTL := hide hTl
  clear RM hTl
  go_upto_block 0 with fail
  go_cut [] (fun wx => Hid (wx = w11) ∧ Hid (∀ i, i < 10 → T.getD i 0 = 0))
  case first =>
    go_wp2
    go_loopw [31] (fun v wr => Hid (wr = w11) ∧ ∃ k : Nat, k ≤ 10 ∧ v = .int .i64 k ∧ Hid (∀ i, i < k → T.getD i 0 = 0)) (fun v _ => 10 - (RowKit.intOf v).toNat)
    case atStart => exact ⟨hide rfl, 0, by omega, rfl, hide (fun i hi => by omega)⟩
    case round =>
      obtain ⟨hw, k, hk, rfl, Z⟩ := hrel
      have hw2 := hw.out.symm
      clear hw
      subst hw2
      by_cases hlt : k < 10
      · have hlt' : (k : Int) < 10 := by omega
        rcases ZT2.out with h0 | ⟨b, off, hbo, hb, hc⟩
        · have := HTL.out; rw [h0] at this; cases this
        injection hbo with hbo
        injection hbo with hb1 hb2
        subst hb1 hb2
        have q := hc k (by rw [HTL.out]; exact hlt)
        rw [Nat.zero_add] at q
        clear hc hb
        rcases TT.out k (by rw [HTL.out]; exact hlt) with e | e
        · rw [e] at q
          have Z2 : Hid (∀ i, i < k + 1 → T.getD i 0 = 0) := fun i hi => by
            by_cases h1 : i < k
            · exact Z.out i h1
            · have : i = k := by omega
              rw [this]; exact e
          clear e
          go_wp2
          go_roundw
          case rel => exact ⟨hide trivial, k + 1, by omega, by go_num, Z2⟩
          case measure => simp [RowKit.intOf]; omega
        · rw [e] at q
          clear e
          go_wp2_with (go_at_call 48; refine HRM.out.mono ?_; rintro e w12 ⟨rfl, hw3⟩; have hw4 := hw3.symm; clear hw3; subst hw4)
          go_ret
          exact ⟨rfl, _, _, I11.out⟩
      · have hlt' : ¬ (k : Int) < 10 := by omega
        obtain rfl : k = 10 := by omega
        go_wp2
        go_meet
        exact ⟨hide rfl, Z⟩
  obtain ⟨hwc, ZZ⟩ := hcut
  have hwc2 := hwc.out.symm
  clear hwc
  subst hwc2
  clear HRM
  have z1 : er1 = 0 := by have h1 := ZZ.out 0 (by omega); rw [HT.out] at h1; exact h1
  have z2 : er2 = 0 := by have h1 := ZZ.out 1 (by omega); rw [HT.out] at h1; exact h1
  have z3 : er3 = 0 := by have h1 := ZZ.out 2 (by omega); rw [HT.out] at h1; exact h1
  have z4 : er4 = 0 := by have h1 := ZZ.out 3 (by omega); rw [HT.out] at h1; exact h1
  have z5 : er5 = 0 := by have h1 := ZZ.out 4 (by omega); rw [HT.out] at h1; exact h1
  have z6 : er6 = 0 := by have h1 := ZZ.out 5 (by omega); rw [HT.out] at h1; exact h1
  have z7 : er7 = 0 := by have h1 := ZZ.out 6 (by omega); rw [HT.out] at h1; exact h1
  have z8 : er8 = 0 := by have h1 := ZZ.out 7 (by omega); rw [HT.out] at h1; exact h1
  have z9 : er9 = 0 := by have h1 := ZZ.out 8 (by omega); rw [HT.out] at h1; exact h1
  have z10 : er10 = 0 := by have h1 := ZZ.out 9 (by omega); rw [HT.out] at h1; exact h1
  clear ZZ HT HTL TT ZT2
  subst z1 z2 z3 z4 z5 z6 z7 z8 z9 z10
  have SAY : Hid (r2 = f ∧ r3 = r4 ∧ r5 = r6 ∧ r9 = r5 ∧ r10 = 0 ∧ hasR N10 r5 ∧ ∀ E, Ex N10 E → ∀ p, Pnt S p → sayR E p r5 = (sayR E p f || sayR E p g)) := by
    have ok := I10.out.ca.ok
    have hF : hasR N10 f := I10.out.ex.has HF.out
    have c1 : ∀ p, Pnt S p → sayR N10 p r1 = !sayR N10 p f := K1.out rfl N10 ((((((((X2.out.trans X3.out).trans X4.out).trans X5.out).trans X6.out).trans X7.out).trans X8.out).trans X9.out).trans X10.out)
    have d1 : hasR N10 r1 := (((((((((X2.out.trans X3.out).trans X4.out).trans X5.out).trans X6.out).trans X7.out).trans X8.out).trans X9.out).trans X10.out).has H1.out)
    have c2 : ∀ p, Pnt S p → sayR N10 p r2 = !sayR N10 p r1 := K2.out rfl N10 (((((((X3.out.trans X4.out).trans X5.out).trans X6.out).trans X7.out).trans X8.out).trans X9.out).trans X10.out)
    have d2 : hasR N10 r2 := ((((((((X3.out.trans X4.out).trans X5.out).trans X6.out).trans X7.out).trans X8.out).trans X9.out).trans X10.out).has H2.out)
    have c3 : ∀ p, Pnt S p → sayR N10 p r3 = (sayR N10 p f && sayR N10 p g) := K3.out rfl N10 ((((((X4.out.trans X5.out).trans X6.out).trans X7.out).trans X8.out).trans X9.out).trans X10.out)
    have d3 : hasR N10 r3 := (((((((X4.out.trans X5.out).trans X6.out).trans X7.out).trans X8.out).trans X9.out).trans X10.out).has H3.out)
    have c4 : ∀ p, Pnt S p → sayR N10 p r4 = (sayR N10 p g && sayR N10 p f) := K4.out rfl N10 (((((X5.out.trans X6.out).trans X7.out).trans X8.out).trans X9.out).trans X10.out)
    have d4 : hasR N10 r4 := ((((((X5.out.trans X6.out).trans X7.out).trans X8.out).trans X9.out).trans X10.out).has H4.out)
    have c5 : ∀ p, Pnt S p → sayR N10 p r5 = (sayR N10 p f || sayR N10 p g) := K5.out rfl N10 ((((X6.out.trans X7.out).trans X8.out).trans X9.out).trans X10.out)
    have d5 : hasR N10 r5 := (((((X6.out.trans X7.out).trans X8.out).trans X9.out).trans X10.out).has H5.out)
    have c6 : ∀ p, Pnt S p → sayR N10 p r6 = (sayR N10 p g || sayR N10 p f) := K6.out rfl N10 (((X7.out.trans X8.out).trans X9.out).trans X10.out)
    have d6 : hasR N10 r6 := ((((X7.out.trans X8.out).trans X9.out).trans X10.out).has H6.out)
    have c7 : ∀ p, Pnt S p → sayR N10 p r7 = !sayR N10 p g := K7.out rfl N10 ((X8.out.trans X9.out).trans X10.out)
    have d7 : hasR N10 r7 := (((X8.out.trans X9.out).trans X10.out).has H7.out)
    have c8 : ∀ p, Pnt S p → sayR N10 p r8 = (sayR N10 p r1 && sayR N10 p r7) := K8.out rfl N10 (X9.out.trans X10.out)
    have d8 : hasR N10 r8 := ((X9.out.trans X10.out).has H8.out)
    have c9 : ∀ p, Pnt S p → sayR N10 p r9 = !sayR N10 p r8 := K9.out rfl N10 X10.out
    have d9 : hasR N10 r9 := (X10.out.has H9.out)
    have c10 : ∀ p, Pnt S p → sayR N10 p r10 = (sayR N10 p f && sayR N10 p r1) := K10.out rfl N10 (Ex.refl _)
    have d10 : hasR N10 r10 := H10.out
    refine ⟨ok.canon d2 hF (fun p hp => by rw [c2 p hp, c1 p hp, Bool.not_not]), ok.canon d3 d4 (fun p hp => by rw [c3 p hp, c4 p hp, Bool.and_comm]), ok.canon d5 d6 (fun p hp => by rw [c5 p hp, c6 p hp, Bool.or_comm]), ok.canon d9 d5 (fun p hp => ?_), ok.is_zero d10 (fun p hp => ?_), d5, fun E hE => K5.out rfl E (((((X6.out.trans X7.out).trans X8.out).trans X9.out).trans X10.out).trans hE)⟩
    · rw [c9 p hp, c8 p hp, c7 p hp, c1 p hp, c5 p hp]
      cases sayR N10 p f <;> cases sayR N10 p g <;> rfl
    · rw [c10 p hp, c1 p hp]
      cases sayR N10 p f <;> rfl
  obtain ⟨e2, e3, e5, e9, e10, hr5, say5⟩ := SAY.out
  have HR5 := hide hr5
  have SY5 := hide say5
  clear SAY hr5 say5
  subst e10
  subst e9
  subst e5
  subst e3
  have e2' := e2.symm
  clear e2
  subst e2'
  clear K1 K2 K3 K4 K5 K6 K7 K8 K9 K10 O1 O2 O3 O4 O5 O6 O7 O8 O9 O10 H1 H2 H3 H4 H5 H6 H7 H8 H9 H10 X1 X2 X3 X4 X5 X6 X7 X8 X9 X10 I0 I1 I2 I3 I4 I5 I6 I7 I8 I9 I10
  go_upto_block 2 with fail
  go_cut [32] (fun v wx => v = .int .i64 f ∧ ∃ N2 P2, Hid (LI w a S M N P N2 P2 wx) ∧ Hid (Ex N10 N2))
  case first =>
    go_wp2
    go_loopw [32, 33] (fun v u wr => ∃ k : Nat, k ≤ s ∧ u = .int .i64 k ∧ ∃ z : Int, v = .int .i64 z ∧ ∃ N2 P2, Hid (LI w a S M N P N2 P2 wr) ∧ Hid (hasR N2 z) ∧ Hid (Ex N10 N2) ∧ Hid (∀ E, Ex N2 E → ∀ p, Pnt S p → sayR E p z = (decide (p l < k) && sayR E p f))) (fun _ u _ => s - (RowKit.intOf u).toNat)
    case atStart => exact ⟨0, Nat.zero_le _, rfl, 0, rfl, N10, P10, I11, hide ⟨by omega, by omega⟩, hide (Ex.refl _), hide (fun E _ p _ => by rw [sayR_zero]; simp)⟩
    case round =>
      obtain ⟨k, hk, rfl, z, rfl, N2, P2, J, HZ, HX, HS2⟩ := hrel
      have SZ := hide J.out.ca.sizes
      by_cases hlt : k < s
      · have hlt' : (k : Int) < (s : Int) := by omega
        have hks : (k : Int) < S.getD l 0 := by rw [HS.out]; exact hlt'
        have HKS := hide hks
        clear hks
        go_upto_region 24 with (go_at_call 49; refine SZ.out.mono ?_; rintro e w20 ⟨⟨sg, sc, rfl, o2, z2, l2⟩, x2⟩; have qs := z2.cell hl; rw [HS.out] at qs; have J20 := hide (J.out.below x2); clear o2 z2 l2 x2)
        clear SZ qs
        have SZ2 := hide J20.out.ca.sizes
        have hmk := make_bools s (s : Int) rfl (by omega)
        go_upto_region 25 with (go_at_call 49; refine SZ2.out.mono ?_; rintro e w21 ⟨⟨sg2, sc2, rfl, o2, z2, l2⟩, x2⟩; have qs := z2.cell hl; rw [HS.out] at qs; have J21 := hide (J20.out.below x2); clear o2 z2 l2 x2)
        clear SZ2 qs hmk J20
        have b22 := heap_alloc_new w21 (.cells (bC (List.replicate s false)).toArray 4)
        have y22 : Below w21.heap.size w21 (w21.alloc (.cells (bC (List.replicate s false)).toArray 4)) := al (Below.refl _ _) _
        generalize w21.alloc (.cells (bC (List.replicate s false)).toArray 4) = w22 at *
        have J22 := hide (J21.out.below (y22.setCell (Nat.le_refl _) (p := ⟨w21.heap.size, k, none⟩) (.bool true)))
        generalize w21.heap.size = nb at *
        have f22 := frozen_of_row w22 nb k _ _ b22
        have c22 : w22.cell? ⟨nb, k, none⟩ = some (.bool false) := by
          rw [cell_of_row _ _ k _ _ _ b22, List.getElem?_toArray, bC_get _ (by simp; omega)]
          simp [hlt]
        have ob1 := oneB_set k b22
        have ST := J22.out.set (cap := s) hl (by rw [oneB_length, HS.out]) ob1
        rw [oneB_length] at ST
        have HST := hide ST
        clear b22 ob1 y22 ST J21
        go_upto_region 26 with fail
        clear f22 c22
        generalize w22.setCell ⟨nb, k, none⟩ (.bool true) = w22 at *
        go_upto_region 27 with (go_at_call 23; refine HST.out.mono ?_; rintro e w23 ⟨q3, e3, N3, P3, rfl, i1, x1, h1, o1, k1⟩; have J23 := hide i1; have X3 := hide x1; have H3 := hide h1; have O3 := hide o1; have K3 := hide k1; clear i1 x1 h1 o1 k1)
        clear HST
        have HCT := hide (J23.out.cut (k := k) (J23.out.ex.has HF.out) hl HKS.out)
        go_upto_region 28 with (go_at_call 26; refine HCT.out.mono ?_; rintro e w24 ⟨q4, e4, N4, P4, rfl, i1, x1, h1, o1, k1⟩; have J24 := hide i1; have X4 := hide x1; have H4 := hide h1; have O4 := hide o1; have K4 := hide k1; clear i1 x1 h1 o1 k1)
        clear HCT
        have HAN := hide (J24.out.and (X4.out.has H3.out) H4.out)
        go_upto_region 29 with (go_at_call 24; refine HAN.out.mono ?_; rintro e w25 ⟨q5, e5, N5, P5, rfl, i1, x1, h1, o1, k1⟩; have J25 := hide i1; have X5 := hide x1; have H5 := hide h1; have O5 := hide o1; have K5 := hide k1; clear i1 x1 h1 o1 k1)
        clear HAN
        have HOR := hide (J25.out.or (((X3.out.trans X4.out).trans X5.out).has HZ.out) H5.out)
        go_upto_region 30 with (go_at_call 39; refine HOR.out.mono ?_; rintro e w26 ⟨q6, e6, N6, P6, rfl, i1, x1, h1, o1, k1⟩; have J26 := hide i1; have X6 := hide x1; have H6 := hide h1; have O6 := hide o1; have K6 := hide k1; clear i1 x1 h1 o1 k1)
        clear HOR
        clear J22 J23 J24 J25
        have RM4 := hide (fun W => room4 W O3.out O4.out O5.out O6.out)
        have HX6 := hide ((((HX.out.trans X3.out).trans X4.out).trans X5.out).trans X6.out)
        rcases O3.out with rfl | rfl
        · rcases O4.out with rfl | rfl
          · rcases O5.out with rfl | rfl
            · rcases O6.out with rfl | rfl
              · have HS6 : Hid (∀ E, Ex N6 E → ∀ p, Pnt S p → sayR E p q6 = (decide (p l < k + 1) && sayR E p f)) := fun E hE p hp => by
                  have x5 := X6.out.trans hE
                  have x4 := X5.out.trans x5
                  have x3 := X4.out.trans x4
                  have x2 := X3.out.trans x3
                  have hps : p l < s := by have h1 := hp l hl; rw [HS.out] at h1; omega
                  rw [K6.out rfl E hE p hp, K5.out rfl E x5 p hp, K4.out rfl E x4 p hp, K3.out rfl E x3 p hp, HS2.out E x2 p hp, oneB_get hps]
                  by_cases c1 : p l = k
                  · have e9 : upd p l k = p := by rw [← c1]; exact upd_self p l
                    rw [e9]
                    simp [c1]
                  · by_cases c2 : p l < k
                    · have c3 : p l < k + 1 := by omega
                      simp [c1, c2, c3]
                    · have c3 : ¬ p l < k + 1 := by omega
                      simp [c1, c2, c3]
                clear RM4 K3 K4 K5 K6 O3 O4 O5 O6 HS2 HX HZ
                go_wp2
                go_roundw
                case rel => exact ⟨k + 1, by omega, by go_num, q6, rfl, N6, P6, J26, H6, HX6, HS6⟩
                case measure => simp [RowKit.intOf]; omega
              · (go_wp2_with (go_at_call 48; refine (RM4.out _).mono ?_; rintro e w30 ⟨rfl, hw3⟩; have hw4 := hw3.symm; clear hw3; subst hw4)); go_ret; exact ⟨rfl, _, _, J26.out.below (al (Below.refl _ _) _)⟩
            · (go_wp2_with (go_at_call 48; refine (RM4.out _).mono ?_; rintro e w30 ⟨rfl, hw3⟩; have hw4 := hw3.symm; clear hw3; subst hw4)); go_ret; exact ⟨rfl, _, _, J26.out.below (al (Below.refl _ _) _)⟩
          · (go_wp2_with (go_at_call 48; refine (RM4.out _).mono ?_; rintro e w30 ⟨rfl, hw3⟩; have hw4 := hw3.symm; clear hw3; subst hw4)); go_ret; exact ⟨rfl, _, _, J26.out.below (al (Below.refl _ _) _)⟩
        · (go_wp2_with (go_at_call 48; refine (RM4.out _).mono ?_; rintro e w30 ⟨rfl, hw3⟩; have hw4 := hw3.symm; clear hw3; subst hw4)); go_ret; exact ⟨rfl, _, _, J26.out.below (al (Below.refl _ _) _)⟩
      · have hlt' : ¬ (k : Int) < (s : Int) := by omega
        obtain rfl : k = s := by omega
        have hz : z = f := J.out.ca.ok.canon HZ.out (J.out.ex.has HF.out) (fun p hp => by
          have hps : p l < k := by have h1 := hp l hl; rw [HS.out] at h1; omega
          rw [HS2.out N2 (Ex.refl _) p hp]
          simp [hps])
        have hz2 := hz.symm
        clear hz
        subst hz2
        go_wp2_with (go_at_call 49; refine SZ.out.mono ?_; rintro e w20 ⟨⟨sg, sc, rfl, o2, z2, l2⟩, x2⟩; have qs := z2.cell hl; rw [HS.out] at qs; have J20 := hide (J.out.below x2); clear o2 z2 l2 x2)
        go_meet
        exact ⟨rfl, N2, P2, J20, HX⟩
  obtain ⟨rfl, N2, P2, J, HX⟩ := hcut
  obtain ⟨w30, hw30⟩ : ∃ w30, w30 = wc := ⟨_, rfl⟩
  subst hw30
  have LEN := hide J.out.ca.len
  have hF : hasR N2 f := J.out.ex.has HF.out
  have hG : hasR N2 g := J.out.ex.has HG.out
  have HAG := hide (J.out.again hF hG (HX.out.has HR5.out) (fun p hp => SY5.out N2 HX.out p hp))
  have HF2 := hide hF
  clear hF hG I11
  go_upto_region 34 with (go_at_call 20; refine LEN.out.mono ?_; rintro e w31 ⟨rfl, hw1⟩; have hw2 := hw1.symm; clear hw1; subst hw2)
  clear LEN
  go_upto_region 35 with (go_at_call 39; refine HAG.out.mono ?_; rintro e w31 ⟨rfl, P3, i3⟩; have J3 := hide i3; clear i3)
  clear HAG J
  by_cases hf0 : f = 0
  · subst hf0
    have PZ := hide (path_zero J3.out.ca)
    go_wp2_with (first
      | (go_at_call 27; refine PZ.out.mono ?_; rintro e w32 ⟨rfl, x2⟩; have J4 := hide (J3.out.below x2); have LEN2 := hide J4.out.ca.len; clear x2)
      | (go_at_call 20; refine LEN2.out.mono ?_; rintro e w33 ⟨rfl, hw3⟩; have hw4 := hw3.symm; clear hw3; subst hw4))
    go_ret
    exact ⟨rfl, _, _, J4.out⟩
  · have HPA := hide (path_ok J3.out.ca HF2.out hf0)
    have hne : (f == 0) = false := by simpa using hf0
    have hnf : (f != 0) = true := by simpa using hf0
    have HF0 := hide hf0
    go_upto_region 40 with (first
      | (go_at_call 27; refine HPA.out.mono ?_; rintro e w32 ⟨ob, rfl, hob, L, hL, hLl, hz, x2⟩; have J4 := hide (J3.out.below x2); have LEN2 := hide J4.out.ca.len; have HOB := hide hob; have HLL := hide hL; have HZZ := hide hz; clear x2 hob hL hLl hz)
      | (go_at_call 20; refine LEN2.out.mono ?_; rintro e w33 ⟨rfl, hw3⟩; have hw4 := hw3.symm; clear hw3; subst hw4))
    have HFP : Hid (FstP S N2 f L) := by unfold Hid; rw [HLL.out]; exact path_first J3.out.ca.ok HF2.out HF0.out
    have HFS := hide (first_ok (cap := S.length) J4.out.ca (J4.out.wbk HB.out HN.out) (J4.out.gw.not (lt_of_block HB.out) HN.out) HF2.out HFP.out HZZ.out (fun hp => by have h1 := J3.out.ca.plt hp; have h2 := HOB.out; omega))
    clear HPA LEN2
    go_wp2_with (go_at_call 50; refine HFS.out.mono ?_; rintro e w34 ⟨rfl, N5, P5, i5⟩; have J5 := hide (J4.out.trans i5); clear i5)
    go_ret
    exact ⟨rfl, _, _, J5.out⟩
end
end Go.Proofs.Ytaafeflbanoncaa
