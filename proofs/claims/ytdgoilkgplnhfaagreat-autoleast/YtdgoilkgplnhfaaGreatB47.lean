/-
  AutoLeast answers true. Conditions: lists no longer than a process can hold.
-/
import Derived.Test.YtdgoilkgplnhfaaGreatB46
import Derived.Test.YtdgoilkgplnhfaaGreatB22
namespace Go.Proofs.YtdgoilkgplnhfaaGreat
open Go.RowKit Go.Lib
theorem full_blk {w : World} {base g n : Nat} {e : TypeId} {xs : List Value} (h : w.ownsRow base e 1 (.slice (some ⟨g, 0, none⟩) n n) n xs) : w.heap[g]? = some (.cells xs.toArray e (0, 0)) := by
  rcases h.2 with ⟨h', _⟩ | ⟨g', cap', cur, h', hb, hg, hnc, hcm, hcs, htake⟩
  · simp at h'
  · simp only [Value.slice.injEq, Option.some.injEq, Addr.mk.injEq, and_true, true_and] at h'
    obtain ⟨rfl, rfl⟩ := h'
    rw [hg, ← htake, List.take_of_length_le (by simp; omega)]
theorem six_apart {d1 d2 d3 d4 d5 d6 : LD} {a b c d : Nat} (h12 : ∀ k, d1.v.ownBlock = some k → ¬ d2.v.ownBlock = some k) (h34 : ∀ k, d3.v.ownBlock = some k → ¬ d4.v.ownBlock = some k) (h56 : ∀ k, d5.v.ownBlock = some k → ¬ d6.v.ownBlock = some k)
    (r1 : ∀ k, d1.v.ownBlock = some k → k < a) (r2 : ∀ k, d2.v.ownBlock = some k → k < a) (r3 : ∀ k, d3.v.ownBlock = some k → b ≤ k ∧ k < c) (r4 : ∀ k, d4.v.ownBlock = some k → b ≤ k ∧ k < c) (r5 : ∀ k, d5.v.ownBlock = some k → d ≤ k) (r6 : ∀ k, d6.v.ownBlock = some k → d ≤ k) (hab : a ≤ b) (hbc : a ≤ d) (hcd : c ≤ d) : ApartL [d1, d2, d3, d4, d5, d6] := by
  have f : ∀ (x y : LD) (i j : Nat), (∀ k, x.v.ownBlock = some k → k < i) → (∀ k, y.v.ownBlock = some k → j ≤ k) → i ≤ j → ∀ k, x.v.ownBlock = some k → ¬ y.v.ownBlock = some k := fun x y i j h1 h2 h3 k h4 h5 => by have := h1 k h4; have := h2 k h5; omega
  refine .cons (fun e he => ?_) (.cons (fun e he => ?_) (.cons (fun e he => ?_) (.cons (fun e he => ?_) (.cons (fun e he => ?_) (.cons (fun e he => (by cases he)) .nil)))))
  · simp only [List.mem_cons, List.not_mem_nil, or_false] at he
    rcases he with rfl | rfl | rfl | rfl | rfl
    · exact h12
    · exact f _ _ a b r1 (fun k h => (r3 k h).1) hab
    · exact f _ _ a b r1 (fun k h => (r4 k h).1) hab
    · exact f _ _ a d r1 r5 hbc
    · exact f _ _ a d r1 r6 hbc
  · simp only [List.mem_cons, List.not_mem_nil, or_false] at he
    rcases he with rfl | rfl | rfl | rfl
    · exact f _ _ a b r2 (fun k h => (r3 k h).1) hab
    · exact f _ _ a b r2 (fun k h => (r4 k h).1) hab
    · exact f _ _ a d r2 r5 hbc
    · exact f _ _ a d r2 r6 hbc
  · simp only [List.mem_cons, List.not_mem_nil, or_false] at he
    rcases he with rfl | rfl | rfl
    · exact h34
    · exact f _ _ c d (fun k h => (r3 k h).2) r5 hcd
    · exact f _ _ c d (fun k h => (r3 k h).2) r6 hcd
  · simp only [List.mem_cons, List.not_mem_nil, or_false] at he
    rcases he with rfl | rfl
    · exact f _ _ c d (fun k h => (r4 k h).2) r5 hcd
    · exact f _ _ c d (fun k h => (r4 k h).2) r6 hcd
  · rw [List.mem_singleton.1 he]
    exact h56
set_option maxRecDepth 100000 in
set_option maxHeartbeats 16000000 in
theorem autoLeast_any (bs : By) (na oa : Option Addr) (nc oc : Nat) (NZ OZ : List Int) (cs : By) (nb ob : Option Addr) (mc pc : Nat) (MZ PZ : List Int) (w : World) (hn : NZ.length ≤ 17592186043904) (ho : OZ.length ≤ 17592186043904) (hm : MZ.length ≤ 17592186043904) (hp : PZ.length ≤ 17592186043904) (hna : ZAt w na NZ) (hoa : ZAt w oa OZ) (hnb : ZAt w nb MZ) (hob : ZAt w ob PZ) :
    Calls Tryz.prog 3 #[auV bs na NZ.length nc oa OZ.length oc, auV cs nb MZ.length mc ob PZ.length pc] w fun e w' => e = .returned (.bool true) ∧ Below w.heap.size w w' := by
  obtain ⟨w2, hw2⟩ : ∃ w2, w2 = (w.alloc (.cells #[.string ⟨bs.toArray⟩, .slice na NZ.length nc, .slice oa OZ.length oc] 24)).alloc (.cells #[.string ⟨cs.toArray⟩, .slice nb MZ.length mc, .slice ob PZ.length pc] 24) := ⟨_, rfl⟩
  obtain ⟨X2, B1, B2, hs2⟩ := two_alloc' w #[.string ⟨bs.toArray⟩, .slice na NZ.length nc, .slice oa OZ.length oc] #[.string ⟨cs.toArray⟩, .slice nb MZ.length mc, .slice ob PZ.length pc] 24 24
  rw [← hw2] at X2 B1 B2 hs2
  have TA := hide (At3.block B1)
  have TB := hide (At3.block B2)
  have ZA := hide (hna.below X2)
  have ZO := hide (hoa.below X2)
  have ZM := hide (hnb.below X2)
  have ZP := hide (hob.below X2)
  have HX2 := hide X2
  have XB : Hid (Below w2.heap.size w2 w2) := Below.refl _ _
  obtain ⟨c1, A1, B1', m1, hA1, hB1, hF1⟩ := LeP.form bs NZ OZ
  obtain ⟨c2, A2, B2', m2, hA2, hB2, hF2⟩ := LeP.form cs MZ PZ
  have HF1 := hide hF1
  have HF2 := hide hF2
  obtain ⟨bR, hbR⟩ : ∃ bR : Bool, bR = true ↔ RightZ bs NZ OZ := by
    by_cases h : RightZ bs NZ OZ
    · exact ⟨true, by simp [h]⟩
    · exact ⟨false, by simp [h]⟩
  have HBR := hide hbR
  have HBY := hide (beyond_any bs na oa NZ.length nc OZ.length oc cs nb ob MZ.length mc PZ.length pc 0 w2)
  clear X2 B1 B2 hs2 hna hoa hnb hob hF1 hF2 hbR
  unfold auV at HBY ⊢
  go_enter Tryz.func3, Tryz.ntmps3
  go_upto_region 1 with fail
  rw [← hw2]
  clear hw2
  obtain ⟨-, c0, c1, c2⟩ := TA.out
  obtain ⟨-, d0, d1, d2⟩ := TB.out
  go_wp2_with (fail)
  refine HBY.out.mono ?_
  rintro e w3 ⟨⟨bb, rfl⟩, x3⟩
  have X := hide x3
  clear HBY x3
  clear c0 c1 c2
  clear d0 d1 d2
  replace TA := hide (TA.out.below X.out)
  replace TB := hide (TB.out.below X.out)
  replace ZA := hide (ZA.out.below X.out)
  replace ZO := hide (ZO.out.below X.out)
  replace ZM := hide (ZM.out.below X.out)
  replace ZP := hide (ZP.out.below X.out)
  replace XB := hide (bt XB.out X.out (Nat.le_refl _))
  cases bb with
  | true =>
    have Xf := hide (bt HX2.out XB.out (Nat.le_refl _))
    go_wp2
    go_ret
    exact ⟨rfl, Xf.out⟩
  | false =>
    as_aux_lemma =>
    have HK := hide (known_any w3)
    go_upto_region 4 with (go_at_call 10; refine HK.out.mono ?_; rintro e w4 ⟨rfl, x4⟩; replace X := hide x4; clear x4)
    clear HK
    replace TA := hide (TA.out.below X.out)
    replace TB := hide (TB.out.below X.out)
    replace ZA := hide (ZA.out.below X.out)
    replace ZO := hide (ZO.out.below X.out)
    replace ZM := hide (ZM.out.below X.out)
    replace ZP := hide (ZP.out.below X.out)
    replace XB := hide (bt XB.out X.out (Nat.le_refl _))
    have HK := hide (lentA_any bs na oa nc oc NZ OZ w4 hn ho ZA.out ZO.out)
    unfold auV at HK
    obtain ⟨-, c0, c1, c2⟩ := TA.out
    go_upto_region 5 with (go_at_call 11; refine HK.out.mono ?_; rintro e w5 ⟨⟨gx, go, rfl, l1, l2⟩, x5⟩; have LX := hide l1; have LO := hide l2; replace X := hide x5; clear x5 l1 l2)
    clear HK
    clear c0 c1 c2
    replace TA := hide (TA.out.below X.out)
    replace TB := hide (TB.out.below X.out)
    replace ZA := hide (ZA.out.below X.out)
    replace ZO := hide (ZO.out.below X.out)
    replace ZM := hide (ZM.out.below X.out)
    replace ZP := hide (ZP.out.below X.out)
    replace XB := hide (bt XB.out X.out (Nat.le_refl _))
    obtain ⟨w6, hwm⟩ : ∃ w6, w6 = w5.alloc (.cells #[.string ⟨bs.toArray⟩, (.slice (some ⟨gx, 0, none⟩) NZ.length (NZ.length + 3)), (.slice (some ⟨go, 0, none⟩) OZ.length (OZ.length + 3))] 24) := ⟨_, rfl⟩
    have T6 : Hid (At3 w6 w5.heap.size bs (.slice (some ⟨gx, 0, none⟩) NZ.length (NZ.length + 3)) (.slice (some ⟨go, 0, none⟩) OZ.length (OZ.length + 3))) := by unfold Hid; rw [hwm]; exact At3.new _ _ _ _
    have Y : Hid (Below w5.heap.size w5 w6) := by unfold Hid; rw [hwm]; exact al (Below.refl _ _) _
    rw [← hwm]
    clear hwm
    replace TA := hide (TA.out.below Y.out)
    replace TB := hide (TB.out.below Y.out)
    replace ZA := hide (ZA.out.below Y.out)
    replace ZO := hide (ZO.out.below Y.out)
    replace ZM := hide (ZM.out.below Y.out)
    replace ZP := hide (ZP.out.below Y.out)
    replace LX := hide (LX.out.below Y.out)
    replace LO := hide (LO.out.below Y.out)
    replace XB := hide (bt XB.out Y.out (Nat.le_refl _))
    obtain ⟨p6, hpn⟩ : ∃ p6, p6 = w5.heap.size := ⟨_, rfl⟩
    rw [← hpn] at T6 ⊢
    clear hpn
    have HK := hide (least_any bs (some ⟨gx, 0, none⟩) (some ⟨go, 0, none⟩) (NZ.length + 3) (OZ.length + 3) NZ OZ w6 (by omega) (by omega) LX.out.z LO.out.z)
    unfold auV at HK
    obtain ⟨-, c0, c1, c2⟩ := T6.out
    go_upto_region 6 with (go_at_call 12; refine HK.out.mono ?_; rintro e w7 ⟨hP, x⟩; obtain ⟨xa, xc, xo, xd, rfl, hO⟩ := HF1.out _ _ _ hP; have Lx := hide hO; replace X := hide x; clear x hP hO)
    clear HK
    have Rx : Hid (∀ k, ((Value.slice xa A1.length xc).ownBlock = some k → w6.heap.size ≤ k ∧ k < w7.heap.size) ∧ ((Value.slice xo B1'.length xd).ownBlock = some k → w6.heap.size ≤ k ∧ k < w7.heap.size)) := fun k => ⟨World.ownsRow.lt Lx.out.ox k, World.ownsRow.lt Lx.out.oo k⟩
    replace Lx := hide (Lx.out.mono (show w2.heap.size ≤ w6.heap.size from XB.out.size))
    have Qx : Hid (w6.heap.size ≤ w7.heap.size) := X.out.size
    clear c0 c1 c2
    replace TA := hide (TA.out.below X.out)
    replace TB := hide (TB.out.below X.out)
    replace ZA := hide (ZA.out.below X.out)
    replace ZO := hide (ZO.out.below X.out)
    replace ZM := hide (ZM.out.below X.out)
    replace ZP := hide (ZP.out.below X.out)
    replace LX := hide (LX.out.below X.out)
    replace LO := hide (LO.out.below X.out)
    replace T6 := hide (T6.out.below X.out)
    replace XB := hide (bt XB.out X.out (Nat.le_refl _))
    obtain ⟨w8, hwm⟩ : ∃ w8, w8 = w7.alloc (.cells #[.string ⟨c1.toArray⟩, (.slice xa A1.length xc), (.slice xo B1'.length xd)] 24) := ⟨_, rfl⟩
    have T7 : Hid (At3 w8 w7.heap.size c1 (.slice xa A1.length xc) (.slice xo B1'.length xd)) := by unfold Hid; rw [hwm]; exact At3.new _ _ _ _
    have Y : Hid (Below w7.heap.size w7 w8) := by unfold Hid; rw [hwm]; exact al (Below.refl _ _) _
    rw [← hwm]
    clear hwm
    replace TA := hide (TA.out.below Y.out)
    replace TB := hide (TB.out.below Y.out)
    replace ZA := hide (ZA.out.below Y.out)
    replace ZO := hide (ZO.out.below Y.out)
    replace ZM := hide (ZM.out.below Y.out)
    replace ZP := hide (ZP.out.below Y.out)
    replace LX := hide (LX.out.below Y.out)
    replace LO := hide (LO.out.below Y.out)
    replace T6 := hide (T6.out.below Y.out)
    replace Lx := hide (Lx.out.below Y.out)
    replace XB := hide (bt XB.out Y.out (Nat.le_refl _))
    obtain ⟨p7, hpn⟩ : ∃ p7, p7 = w7.heap.size := ⟨_, rfl⟩
    rw [← hpn] at T7 ⊢
    clear hpn
    have Sx : Hid (w7.heap.size ≤ w8.heap.size) := Y.out.size
    clear Y X
    have HK := hide (least_any cs nb ob mc pc MZ PZ w8 (by omega) (by omega) ZM.out ZP.out)
    unfold auV at HK
    obtain ⟨-, c0, c1, c2⟩ := TB.out
    go_upto_region 7 with (go_at_call 12; refine HK.out.mono ?_; rintro e w9 ⟨hP, x⟩; obtain ⟨ya, yc, yo, yd, rfl, hO⟩ := HF2.out _ _ _ hP; have Ly := hide hO; replace X := hide x; clear x hP hO)
    clear HK
    have Ry : Hid (∀ k, ((Value.slice ya A2.length yc).ownBlock = some k → w8.heap.size ≤ k ∧ k < w9.heap.size) ∧ ((Value.slice yo B2'.length yd).ownBlock = some k → w8.heap.size ≤ k ∧ k < w9.heap.size)) := fun k => ⟨World.ownsRow.lt Ly.out.ox k, World.ownsRow.lt Ly.out.oo k⟩
    replace Ly := hide (Ly.out.mono (show w2.heap.size ≤ w8.heap.size from XB.out.size))
    have Qy : Hid (w8.heap.size ≤ w9.heap.size) := X.out.size
    clear c0 c1 c2
    replace TA := hide (TA.out.below X.out)
    replace TB := hide (TB.out.below X.out)
    replace ZA := hide (ZA.out.below X.out)
    replace ZO := hide (ZO.out.below X.out)
    replace ZM := hide (ZM.out.below X.out)
    replace ZP := hide (ZP.out.below X.out)
    replace LX := hide (LX.out.below X.out)
    replace LO := hide (LO.out.below X.out)
    replace T6 := hide (T6.out.below X.out)
    replace Lx := hide (Lx.out.below X.out)
    replace T7 := hide (T7.out.below X.out)
    replace XB := hide (bt XB.out X.out (Nat.le_refl _))
    obtain ⟨w10, hwm⟩ : ∃ w10, w10 = w9.alloc (.cells #[.string ⟨c2.toArray⟩, (.slice ya A2.length yc), (.slice yo B2'.length yd)] 24) := ⟨_, rfl⟩
    have T9 : Hid (At3 w10 w9.heap.size c2 (.slice ya A2.length yc) (.slice yo B2'.length yd)) := by unfold Hid; rw [hwm]; exact At3.new _ _ _ _
    have Y : Hid (Below w9.heap.size w9 w10) := by unfold Hid; rw [hwm]; exact al (Below.refl _ _) _
    rw [← hwm]
    clear hwm
    replace TA := hide (TA.out.below Y.out)
    replace TB := hide (TB.out.below Y.out)
    replace ZA := hide (ZA.out.below Y.out)
    replace ZO := hide (ZO.out.below Y.out)
    replace ZM := hide (ZM.out.below Y.out)
    replace ZP := hide (ZP.out.below Y.out)
    replace LX := hide (LX.out.below Y.out)
    replace LO := hide (LO.out.below Y.out)
    replace T6 := hide (T6.out.below Y.out)
    replace Lx := hide (Lx.out.below Y.out)
    replace T7 := hide (T7.out.below Y.out)
    replace Ly := hide (Ly.out.below Y.out)
    replace XB := hide (bt XB.out Y.out (Nat.le_refl _))
    obtain ⟨p9, hpn⟩ : ∃ p9, p9 = w9.heap.size := ⟨_, rfl⟩
    rw [← hpn] at T9 ⊢
    clear hpn
    have Sy : Hid (w9.heap.size ≤ w10.heap.size) := Y.out.size
    clear Y X
    have HK := hide (least_any bs (some ⟨gx, 0, none⟩) (some ⟨go, 0, none⟩) (NZ.length + 3) (OZ.length + 3) NZ OZ w10 (by omega) (by omega) LX.out.z LO.out.z)
    unfold auV at HK
    obtain ⟨-, c0, c1, c2⟩ := T6.out
    go_upto_region 8 with (go_at_call 12; refine HK.out.mono ?_; rintro e w11 ⟨hP, x⟩; obtain ⟨za, zc, zo, zd, rfl, hO⟩ := HF1.out _ _ _ hP; have Lz := hide hO; replace X := hide x; clear x hP hO)
    clear HK
    have Rz : Hid (∀ k, ((Value.slice za A1.length zc).ownBlock = some k → w10.heap.size ≤ k ∧ k < w11.heap.size) ∧ ((Value.slice zo B1'.length zd).ownBlock = some k → w10.heap.size ≤ k ∧ k < w11.heap.size)) := fun k => ⟨World.ownsRow.lt Lz.out.ox k, World.ownsRow.lt Lz.out.oo k⟩
    replace Lz := hide (Lz.out.mono (show w2.heap.size ≤ w10.heap.size from XB.out.size))
    have Qz : Hid (w10.heap.size ≤ w11.heap.size) := X.out.size
    clear c0 c1 c2
    replace TA := hide (TA.out.below X.out)
    replace TB := hide (TB.out.below X.out)
    replace ZA := hide (ZA.out.below X.out)
    replace ZO := hide (ZO.out.below X.out)
    replace ZM := hide (ZM.out.below X.out)
    replace ZP := hide (ZP.out.below X.out)
    replace LX := hide (LX.out.below X.out)
    replace LO := hide (LO.out.below X.out)
    replace T6 := hide (T6.out.below X.out)
    replace Lx := hide (Lx.out.below X.out)
    replace T7 := hide (T7.out.below X.out)
    replace Ly := hide (Ly.out.below X.out)
    replace T9 := hide (T9.out.below X.out)
    replace XB := hide (bt XB.out X.out (Nat.le_refl _))
    obtain ⟨w12, hwm⟩ : ∃ w12, w12 = w11.alloc (.cells #[.string ⟨c1.toArray⟩, (.slice za A1.length zc), (.slice zo B1'.length zd)] 24) := ⟨_, rfl⟩
    have T11 : Hid (At3 w12 w11.heap.size c1 (.slice za A1.length zc) (.slice zo B1'.length zd)) := by unfold Hid; rw [hwm]; exact At3.new _ _ _ _
    have Y : Hid (Below w11.heap.size w11 w12) := by unfold Hid; rw [hwm]; exact al (Below.refl _ _) _
    rw [← hwm]
    clear hwm
    replace TA := hide (TA.out.below Y.out)
    replace TB := hide (TB.out.below Y.out)
    replace ZA := hide (ZA.out.below Y.out)
    replace ZO := hide (ZO.out.below Y.out)
    replace ZM := hide (ZM.out.below Y.out)
    replace ZP := hide (ZP.out.below Y.out)
    replace LX := hide (LX.out.below Y.out)
    replace LO := hide (LO.out.below Y.out)
    replace T6 := hide (T6.out.below Y.out)
    replace Lx := hide (Lx.out.below Y.out)
    replace T7 := hide (T7.out.below Y.out)
    replace Ly := hide (Ly.out.below Y.out)
    replace T9 := hide (T9.out.below Y.out)
    replace Lz := hide (Lz.out.below Y.out)
    replace XB := hide (bt XB.out Y.out (Nat.le_refl _))
    obtain ⟨p11, hpn⟩ : ∃ p11, p11 = w11.heap.size := ⟨_, rfl⟩
    rw [← hpn] at T11 ⊢
    clear hpn
    have Sz : Hid (w11.heap.size ≤ w12.heap.size) := Y.out.size
    clear Y X
    have HK := hide (leastD_any bs na oa nc oc NZ OZ w12 (by omega) (by omega) ZA.out ZO.out)
    unfold auV at HK
    obtain ⟨-, c0, c1, c2⟩ := TA.out
    go_upto_region 9 with (go_at_call 13; refine HK.out.mono ?_; rintro e w13 ⟨hP, x⟩; obtain ⟨ua, uc, uo, ud, rfl, hO⟩ := HF1.out _ _ _ hP; have Lu := hide hO; replace X := hide x; clear x hP hO)
    clear HK
    have Ru : Hid (∀ k, ((Value.slice ua A1.length uc).ownBlock = some k → w12.heap.size ≤ k ∧ k < w13.heap.size) ∧ ((Value.slice uo B1'.length ud).ownBlock = some k → w12.heap.size ≤ k ∧ k < w13.heap.size)) := fun k => ⟨World.ownsRow.lt Lu.out.ox k, World.ownsRow.lt Lu.out.oo k⟩
    replace Lu := hide (Lu.out.mono (show w2.heap.size ≤ w12.heap.size from XB.out.size))
    have Qu : Hid (w12.heap.size ≤ w13.heap.size) := X.out.size
    clear c0 c1 c2
    replace TA := hide (TA.out.below X.out)
    replace TB := hide (TB.out.below X.out)
    replace ZA := hide (ZA.out.below X.out)
    replace ZO := hide (ZO.out.below X.out)
    replace ZM := hide (ZM.out.below X.out)
    replace ZP := hide (ZP.out.below X.out)
    replace LX := hide (LX.out.below X.out)
    replace LO := hide (LO.out.below X.out)
    replace T6 := hide (T6.out.below X.out)
    replace Lx := hide (Lx.out.below X.out)
    replace T7 := hide (T7.out.below X.out)
    replace Ly := hide (Ly.out.below X.out)
    replace T9 := hide (T9.out.below X.out)
    replace Lz := hide (Lz.out.below X.out)
    replace T11 := hide (T11.out.below X.out)
    replace XB := hide (bt XB.out X.out (Nat.le_refl _))
    obtain ⟨w14, hwm⟩ : ∃ w14, w14 = w13.alloc (.cells #[.string ⟨c1.toArray⟩, (.slice ua A1.length uc), (.slice uo B1'.length ud)] 24) := ⟨_, rfl⟩
    have T13 : Hid (At3 w14 w13.heap.size c1 (.slice ua A1.length uc) (.slice uo B1'.length ud)) := by unfold Hid; rw [hwm]; exact At3.new _ _ _ _
    have Y : Hid (Below w13.heap.size w13 w14) := by unfold Hid; rw [hwm]; exact al (Below.refl _ _) _
    rw [← hwm]
    clear hwm
    replace TA := hide (TA.out.below Y.out)
    replace TB := hide (TB.out.below Y.out)
    replace ZA := hide (ZA.out.below Y.out)
    replace ZO := hide (ZO.out.below Y.out)
    replace ZM := hide (ZM.out.below Y.out)
    replace ZP := hide (ZP.out.below Y.out)
    replace LX := hide (LX.out.below Y.out)
    replace LO := hide (LO.out.below Y.out)
    replace T6 := hide (T6.out.below Y.out)
    replace Lx := hide (Lx.out.below Y.out)
    replace T7 := hide (T7.out.below Y.out)
    replace Ly := hide (Ly.out.below Y.out)
    replace T9 := hide (T9.out.below Y.out)
    replace Lz := hide (Lz.out.below Y.out)
    replace T11 := hide (T11.out.below Y.out)
    replace Lu := hide (Lu.out.below Y.out)
    replace XB := hide (bt XB.out Y.out (Nat.le_refl _))
    obtain ⟨p13, hpn⟩ : ∃ p13, p13 = w13.heap.size := ⟨_, rfl⟩
    rw [← hpn] at T13 ⊢
    clear hpn
    have Su : Hid (w13.heap.size ≤ w14.heap.size) := Y.out.size
    clear Y X
    have HK := hide (leastD_any cs nb ob mc pc MZ PZ w14 (by omega) (by omega) ZM.out ZP.out)
    unfold auV at HK
    obtain ⟨-, c0, c1, c2⟩ := TB.out
    go_upto_region 10 with (go_at_call 13; refine HK.out.mono ?_; rintro e w15 ⟨hP, x⟩; obtain ⟨va, vc, vo, vd, rfl, hO⟩ := HF2.out _ _ _ hP; have Lv := hide hO; replace X := hide x; clear x hP hO)
    clear HK
    have Rv : Hid (∀ k, ((Value.slice va A2.length vc).ownBlock = some k → w14.heap.size ≤ k ∧ k < w15.heap.size) ∧ ((Value.slice vo B2'.length vd).ownBlock = some k → w14.heap.size ≤ k ∧ k < w15.heap.size)) := fun k => ⟨World.ownsRow.lt Lv.out.ox k, World.ownsRow.lt Lv.out.oo k⟩
    replace Lv := hide (Lv.out.mono (show w2.heap.size ≤ w14.heap.size from XB.out.size))
    have Qv : Hid (w14.heap.size ≤ w15.heap.size) := X.out.size
    clear c0 c1 c2
    replace TA := hide (TA.out.below X.out)
    replace TB := hide (TB.out.below X.out)
    replace ZA := hide (ZA.out.below X.out)
    replace ZO := hide (ZO.out.below X.out)
    replace ZM := hide (ZM.out.below X.out)
    replace ZP := hide (ZP.out.below X.out)
    replace LX := hide (LX.out.below X.out)
    replace LO := hide (LO.out.below X.out)
    replace T6 := hide (T6.out.below X.out)
    replace Lx := hide (Lx.out.below X.out)
    replace T7 := hide (T7.out.below X.out)
    replace Ly := hide (Ly.out.below X.out)
    replace T9 := hide (T9.out.below X.out)
    replace Lz := hide (Lz.out.below X.out)
    replace T11 := hide (T11.out.below X.out)
    replace Lu := hide (Lu.out.below X.out)
    replace T13 := hide (T13.out.below X.out)
    replace XB := hide (bt XB.out X.out (Nat.le_refl _))
    obtain ⟨w16, hwm⟩ : ∃ w16, w16 = w15.alloc (.cells #[.string ⟨c2.toArray⟩, (.slice va A2.length vc), (.slice vo B2'.length vd)] 24) := ⟨_, rfl⟩
    have T15 : Hid (At3 w16 w15.heap.size c2 (.slice va A2.length vc) (.slice vo B2'.length vd)) := by unfold Hid; rw [hwm]; exact At3.new _ _ _ _
    have Y : Hid (Below w15.heap.size w15 w16) := by unfold Hid; rw [hwm]; exact al (Below.refl _ _) _
    rw [← hwm]
    clear hwm
    replace TA := hide (TA.out.below Y.out)
    replace TB := hide (TB.out.below Y.out)
    replace ZA := hide (ZA.out.below Y.out)
    replace ZO := hide (ZO.out.below Y.out)
    replace ZM := hide (ZM.out.below Y.out)
    replace ZP := hide (ZP.out.below Y.out)
    replace LX := hide (LX.out.below Y.out)
    replace LO := hide (LO.out.below Y.out)
    replace T6 := hide (T6.out.below Y.out)
    replace Lx := hide (Lx.out.below Y.out)
    replace T7 := hide (T7.out.below Y.out)
    replace Ly := hide (Ly.out.below Y.out)
    replace T9 := hide (T9.out.below Y.out)
    replace Lz := hide (Lz.out.below Y.out)
    replace T11 := hide (T11.out.below Y.out)
    replace Lu := hide (Lu.out.below Y.out)
    replace T13 := hide (T13.out.below Y.out)
    replace Lv := hide (Lv.out.below Y.out)
    replace XB := hide (bt XB.out Y.out (Nat.le_refl _))
    obtain ⟨p15, hpn⟩ : ∃ p15, p15 = w15.heap.size := ⟨_, rfl⟩
    rw [← hpn] at T15 ⊢
    clear hpn
    have Sv : Hid (w15.heap.size ≤ w16.heap.size) := Y.out.size
    clear Y X
    have HK := hide (sameZ_any c1 c1 xa xo ua uo xc xd uc ud A1 B1' A1 B1' w16 (by omega) (by omega) (own_z Lx.out.ox) (own_z Lx.out.oo) (own_z Lu.out.ox) (own_z Lu.out.oo))
    unfold auV at HK
    obtain ⟨-, c0, c1, c2⟩ := T7.out
    obtain ⟨-, d0, d1, d2⟩ := T13.out
    go_upto_region 11 with (go_at_call 14; refine HK.out.mono ?_; rintro e w17 ⟨⟨b, rfl, hb⟩, x⟩; obtain rfl : b = true := (hb.2 ⟨rfl, rfl, rfl⟩); have X := hide x; clear x hb)
    clear HK
    clear c0 c1 c2
    clear d0 d1 d2
    replace TA := hide (TA.out.below X.out)
    replace TB := hide (TB.out.below X.out)
    replace ZA := hide (ZA.out.below X.out)
    replace ZO := hide (ZO.out.below X.out)
    replace ZM := hide (ZM.out.below X.out)
    replace ZP := hide (ZP.out.below X.out)
    replace LX := hide (LX.out.below X.out)
    replace LO := hide (LO.out.below X.out)
    replace T6 := hide (T6.out.below X.out)
    replace Lx := hide (Lx.out.below X.out)
    replace T7 := hide (T7.out.below X.out)
    replace Ly := hide (Ly.out.below X.out)
    replace T9 := hide (T9.out.below X.out)
    replace Lz := hide (Lz.out.below X.out)
    replace T11 := hide (T11.out.below X.out)
    replace Lu := hide (Lu.out.below X.out)
    replace T13 := hide (T13.out.below X.out)
    replace Lv := hide (Lv.out.below X.out)
    replace T15 := hide (T15.out.below X.out)
    replace XB := hide (bt XB.out X.out (Nat.le_refl _))
    clear X
    have HK := hide (sameZ_any c2 c2 ya yo va vo yc yd vc vd A2 B2' A2 B2' w17 (by omega) (by omega) (own_z Ly.out.ox) (own_z Ly.out.oo) (own_z Lv.out.ox) (own_z Lv.out.oo))
    unfold auV at HK
    obtain ⟨-, c0, c1, c2⟩ := T9.out
    obtain ⟨-, d0, d1, d2⟩ := T15.out
    go_upto_region 12 with (go_at_call 14; refine HK.out.mono ?_; rintro e w18 ⟨⟨b, rfl, hb⟩, x⟩; obtain rfl : b = true := (hb.2 ⟨rfl, rfl, rfl⟩); have X := hide x; clear x hb)
    clear HK
    clear c0 c1 c2
    clear d0 d1 d2
    replace TA := hide (TA.out.below X.out)
    replace TB := hide (TB.out.below X.out)
    replace ZA := hide (ZA.out.below X.out)
    replace ZO := hide (ZO.out.below X.out)
    replace ZM := hide (ZM.out.below X.out)
    replace ZP := hide (ZP.out.below X.out)
    replace LX := hide (LX.out.below X.out)
    replace LO := hide (LO.out.below X.out)
    replace T6 := hide (T6.out.below X.out)
    replace Lx := hide (Lx.out.below X.out)
    replace T7 := hide (T7.out.below X.out)
    replace Ly := hide (Ly.out.below X.out)
    replace T9 := hide (T9.out.below X.out)
    replace Lz := hide (Lz.out.below X.out)
    replace T11 := hide (T11.out.below X.out)
    replace Lu := hide (Lu.out.below X.out)
    replace T13 := hide (T13.out.below X.out)
    replace Lv := hide (Lv.out.below X.out)
    replace T15 := hide (T15.out.below X.out)
    replace XB := hide (bt XB.out X.out (Nat.le_refl _))
    clear X
    have HK := hide (sameZ_any c1 c1 za zo ua uo zc zd uc ud A1 B1' A1 B1' w18 (by omega) (by omega) (own_z Lz.out.ox) (own_z Lz.out.oo) (own_z Lu.out.ox) (own_z Lu.out.oo))
    unfold auV at HK
    obtain ⟨-, c0, c1, c2⟩ := T11.out
    obtain ⟨-, d0, d1, d2⟩ := T13.out
    go_upto_region 13 with (go_at_call 14; refine HK.out.mono ?_; rintro e w19 ⟨⟨b, rfl, hb⟩, x⟩; obtain rfl : b = true := (hb.2 ⟨rfl, rfl, rfl⟩); have X := hide x; clear x hb)
    clear HK
    clear c0 c1 c2
    clear d0 d1 d2
    replace TA := hide (TA.out.below X.out)
    replace TB := hide (TB.out.below X.out)
    replace ZA := hide (ZA.out.below X.out)
    replace ZO := hide (ZO.out.below X.out)
    replace ZM := hide (ZM.out.below X.out)
    replace ZP := hide (ZP.out.below X.out)
    replace LX := hide (LX.out.below X.out)
    replace LO := hide (LO.out.below X.out)
    replace T6 := hide (T6.out.below X.out)
    replace Lx := hide (Lx.out.below X.out)
    replace T7 := hide (T7.out.below X.out)
    replace Ly := hide (Ly.out.below X.out)
    replace T9 := hide (T9.out.below X.out)
    replace Lz := hide (Lz.out.below X.out)
    replace T11 := hide (T11.out.below X.out)
    replace Lu := hide (Lu.out.below X.out)
    replace T13 := hide (T13.out.below X.out)
    replace Lv := hide (Lv.out.below X.out)
    replace T15 := hide (T15.out.below X.out)
    replace XB := hide (bt XB.out X.out (Nat.le_refl _))
    clear X
    have HK := hide (keptA_any bs gx go na oa nc oc NZ OZ w19 hn ho LX.out LO.out ZA.out ZO.out)
    unfold auV at HK
    obtain ⟨-, c0, c1, c2⟩ := T6.out
    obtain ⟨-, d0, d1, d2⟩ := TA.out
    go_upto_region 14 with (go_at_call 15; refine HK.out.mono ?_; rintro e w20 ⟨rfl, x⟩; have X := hide x; clear x)
    clear HK
    clear c0 c1 c2
    clear d0 d1 d2
    replace TA := hide (TA.out.below X.out)
    replace TB := hide (TB.out.below X.out)
    replace ZA := hide (ZA.out.below X.out)
    replace ZO := hide (ZO.out.below X.out)
    replace ZM := hide (ZM.out.below X.out)
    replace ZP := hide (ZP.out.below X.out)
    replace LX := hide (LX.out.below X.out)
    replace LO := hide (LO.out.below X.out)
    replace T6 := hide (T6.out.below X.out)
    replace Lx := hide (Lx.out.below X.out)
    replace T7 := hide (T7.out.below X.out)
    replace Ly := hide (Ly.out.below X.out)
    replace T9 := hide (T9.out.below X.out)
    replace Lz := hide (Lz.out.below X.out)
    replace T11 := hide (T11.out.below X.out)
    replace Lu := hide (Lu.out.below X.out)
    replace T13 := hide (T13.out.below X.out)
    replace Lv := hide (Lv.out.below X.out)
    replace T15 := hide (T15.out.below X.out)
    replace XB := hide (bt XB.out X.out (Nat.le_refl _))
    clear X
    have HRA : Hid (∀ V, Below w20.heap.size w20 V → Calls Tryz.prog 16 #[.agg #[.string ⟨bs.toArray⟩, .slice (some ⟨gx, 0, none⟩) NZ.length (NZ.length + 3), .slice (some ⟨go, 0, none⟩) OZ.length (OZ.length + 3)]] V fun e w' => e = .returned (.bool bR) ∧ Below V.heap.size V w') := fun V x => by
      refine (rightA_any bs (some ⟨gx, 0, none⟩) (some ⟨go, 0, none⟩) (NZ.length + 3) (OZ.length + 3) NZ OZ V (by omega) (by omega) (LX.out.below x).z (LO.out.below x).z).mono ?_
      rintro e w' ⟨⟨b, rfl, hb⟩, x'⟩
      exact ⟨by rw [Bool.eq_iff_iff.2 (hb.trans HBR.out.symm)], x'⟩
    have HRB : Hid (∀ V, Below w20.heap.size w20 V → Calls Tryz.prog 17 #[.agg #[.string ⟨bs.toArray⟩, .slice na NZ.length nc, .slice oa OZ.length oc]] V fun e w' => e = .returned (.bool bR) ∧ Below V.heap.size V w') := fun V x => by
      refine (rightD_any bs na oa nc oc NZ OZ V (by omega) (by omega) (ZA.out.below x) (ZO.out.below x)).mono ?_
      rintro e w' ⟨⟨b, rfl, hb⟩, x'⟩
      exact ⟨by rw [Bool.eq_iff_iff.2 (hb.trans HBR.out.symm)], x'⟩
    have HDr : Hid (Below w20.heap.size w20 w20.drew) := (Below.refl _ _).drew
    have n1 : (m1 != m1) = false := by simp
    have n2 : (m2 != m2) = false := by simp
    have n3 : (bR != bR) = false := by simp
    refine wp_region_quiet (C := fun w' => Below w20.heap.size w20 w') (by kernel_rfl) (by kernel_rfl) HDr.out ?_
    refine QW.out (l := _ :: _) ?_
    iterate 35 (refine QW.take (by rfl) ?_; apply Exists.intro; refine ⟨fun w' hw' => ?_, ?_⟩; (· (obtain ⟨-, c0, c1', c2'⟩ := T6.out.below hw'; obtain ⟨-, d0, d1, d2⟩ := TA.out.below hw'; go_simp; first | done | (first | done | rfl))); try simp only [Act.put, List.setIfInBounds_toArray, List.set_cons_zero, List.set_cons_succ])
    iterate 1 (refine QW.take (by rfl) ?_; apply Exists.intro; refine ⟨fun w' hw' => ?_, ?_⟩; (· (obtain ⟨-, c0, c1', c2'⟩ := T6.out.below hw'; obtain ⟨-, d0, d1, d2⟩ := TA.out.below hw'; go_simp; (refine (HRA.out _ hw').mono ?_; rintro e w22 ⟨rfl, x⟩; exact ⟨rfl, hw'.trans (x.mono hw'.size)⟩))); try simp only [Act.put, List.setIfInBounds_toArray, List.set_cons_zero, List.set_cons_succ])
    iterate 1 (refine QW.take (by rfl) ?_; apply Exists.intro; refine ⟨fun w' hw' => ?_, ?_⟩; (· (obtain ⟨-, c0, c1', c2'⟩ := T6.out.below hw'; obtain ⟨-, d0, d1, d2⟩ := TA.out.below hw'; go_simp; first | done | (first | done | rfl))); try simp only [Act.put, List.setIfInBounds_toArray, List.set_cons_zero, List.set_cons_succ])
    iterate 1 (refine QW.take (by rfl) ?_; apply Exists.intro; refine ⟨fun w' hw' => ?_, ?_⟩; (· (obtain ⟨-, c0, c1', c2'⟩ := T6.out.below hw'; obtain ⟨-, d0, d1, d2⟩ := TA.out.below hw'; go_simp; (refine (HRB.out _ hw').mono ?_; rintro e w22 ⟨rfl, x⟩; exact ⟨rfl, hw'.trans (x.mono hw'.size)⟩))); try simp only [Act.put, List.setIfInBounds_toArray, List.set_cons_zero, List.set_cons_succ])
    iterate 2 (refine QW.take (by rfl) ?_; apply Exists.intro; refine ⟨fun w' hw' => ?_, ?_⟩; (· (obtain ⟨-, c0, c1', c2'⟩ := T6.out.below hw'; obtain ⟨-, d0, d1, d2⟩ := TA.out.below hw'; go_simp; first | done | (first | done | rfl))); try simp only [Act.put, List.setIfInBounds_toArray, List.set_cons_zero, List.set_cons_succ])
    refine QW.nil ?_
    intro w21 x21
    have X := hide x21
    clear x21 HDr HRA HRB n1 n2 n3
    replace TA := hide (TA.out.below X.out)
    replace TB := hide (TB.out.below X.out)
    replace ZA := hide (ZA.out.below X.out)
    replace ZO := hide (ZO.out.below X.out)
    replace ZM := hide (ZM.out.below X.out)
    replace ZP := hide (ZP.out.below X.out)
    replace LX := hide (LX.out.below X.out)
    replace LO := hide (LO.out.below X.out)
    replace T6 := hide (T6.out.below X.out)
    replace Lx := hide (Lx.out.below X.out)
    replace T7 := hide (T7.out.below X.out)
    replace Ly := hide (Ly.out.below X.out)
    replace T9 := hide (T9.out.below X.out)
    replace Lz := hide (Lz.out.below X.out)
    replace T11 := hide (T11.out.below X.out)
    replace Lu := hide (Lu.out.below X.out)
    replace T13 := hide (T13.out.below X.out)
    replace Lv := hide (Lv.out.below X.out)
    replace T15 := hide (T15.out.below X.out)
    replace XB := hide (bt XB.out X.out (Nat.le_refl _))
    clear X
    have FB0 := hide ((Fr.start w21).box 37 [.slice none 0 0, .slice none 0 0] (by simp [maxLen]))
    go_upto_region 17 with fail
    obtain ⟨w22, hw22⟩ : ∃ w22, w22 = w21.alloc (.cells #[.slice none 0 0, .slice none 0 0] 37) := ⟨_, rfl⟩
    obtain ⟨bk, hbk⟩ : ∃ bk, bk = w21.heap.size := ⟨_, rfl⟩
    have FB : Hid (Fr w21 [(.slice none 0 0, 22, []), (.slice (some ⟨bk, 0, none⟩) 2 2, 37, [.slice none 0 0, .slice none 0 0])] w22) := by rw [hw22, hbk]; exact Fr.front (FB0.out.bare 22)
    rw [← hw22, ← hbk]
    clear hw22 hbk FB0
    have HK := hide (takesA_any c1 xa xo A1.length xc B1'.length xd bk w21 w22 _ _ (by simp) FB.out)
    unfold auV at HK
    obtain ⟨-, e0, e1, e2⟩ := T7.out.below FB.out.bel
    go_upto_region 18 with (go_at_call 18; refine HK.out.mono ?_; rintro e w23 ⟨rfl, lv0, F⟩; have FN : Hid (Fr w21 [(lv0, 22, [.slice xa A1.length xc, .slice xo B1'.length xd]), (.slice (some ⟨bk, 0, none⟩) 2 2, 37, [lv0, .slice none 0 0])] w23) := F; clear F)
    clear HK e0 e1 e2 FB
    obtain ⟨FB, hFB⟩ : ∃ FB : Hid (Fr w21 [(lv0, 22, [.slice xa A1.length xc, .slice xo B1'.length xd]), (.slice (some ⟨bk, 0, none⟩) 2 2, 37, [lv0, .slice none 0 0])] w23), FB = FN := ⟨FN, rfl⟩
    clear hFB FN
    have HK := hide (takesA_any c2 ya yo A2.length yc B2'.length yd bk w21 w23 _ _ (by simp) FB.out)
    unfold auV at HK
    obtain ⟨-, e0, e1, e2⟩ := T9.out.below FB.out.bel
    go_upto_region 19 with (go_at_call 18; refine HK.out.mono ?_; rintro e w24 ⟨rfl, lv1, F⟩; have FN : Hid (Fr w21 [(lv1, 22, [.slice xa A1.length xc, .slice xo B1'.length xd, .slice ya A2.length yc, .slice yo B2'.length yd]), (.slice (some ⟨bk, 0, none⟩) 2 2, 37, [lv1, .slice none 0 0])] w24) := F; clear F)
    clear HK e0 e1 e2 FB
    obtain ⟨FB, hFB⟩ : ∃ FB : Hid (Fr w21 [(lv1, 22, [.slice xa A1.length xc, .slice xo B1'.length xd, .slice ya A2.length yc, .slice yo B2'.length yd]), (.slice (some ⟨bk, 0, none⟩) 2 2, 37, [lv1, .slice none 0 0])] w24), FB = FN := ⟨FN, rfl⟩
    clear hFB FN
    have HK := hide (takesA_any c1 za zo A1.length zc B1'.length zd bk w21 w24 _ _ (by simp) FB.out)
    unfold auV at HK
    obtain ⟨-, e0, e1, e2⟩ := T11.out.below FB.out.bel
    go_upto_region 20 with (go_at_call 18; refine HK.out.mono ?_; rintro e w25 ⟨rfl, lv2, F⟩; have FN : Hid (Fr w21 [(lv2, 22, [.slice xa A1.length xc, .slice xo B1'.length xd, .slice ya A2.length yc, .slice yo B2'.length yd, .slice za A1.length zc, .slice zo B1'.length zd]), (.slice (some ⟨bk, 0, none⟩) 2 2, 37, [lv2, .slice none 0 0])] w25) := F; clear F)
    clear HK e0 e1 e2 FB
    obtain ⟨FB, hFB⟩ : ∃ FB : Hid (Fr w21 [(lv2, 22, [.slice xa A1.length xc, .slice xo B1'.length xd, .slice ya A2.length yc, .slice yo B2'.length yd, .slice za A1.length zc, .slice zo B1'.length zd]), (.slice (some ⟨bk, 0, none⟩) 2 2, 37, [lv2, .slice none 0 0])] w25), FB = FN := ⟨FN, rfl⟩
    clear hFB FN
    obtain ⟨lao, lcap, hv⟩ := FB.out.shape (i := 0) (by simp) rfl
    have hv : lv2 = .slice lao 6 lcap := hv
    subst hv
    have HLS : Hid (LsAt 22 3 1 w25 w2.heap.size (.slice lao 6 lcap) [⟨.slice xa A1.length xc, A1.length⟩, ⟨.slice xo B1'.length xd, B1'.length⟩, ⟨.slice ya A2.length yc, A2.length⟩, ⟨.slice yo B2'.length yd, B2'.length⟩, ⟨.slice za A1.length zc, A1.length⟩, ⟨.slice zo B1'.length zd, B1'.length⟩] (fun i => [zC A1, zC B1', zC A2, zC B2', zC A1, zC B1'].getD i [])) := by
      refine ⟨row_mono (FB.out.own (i := 0) (by simp) rfl) XB.out.size, fun i hi => ?_, ?_⟩
      · have hx := Lx.out.below FB.out.bel
        have hy := Ly.out.below FB.out.bel
        have hz := Lz.out.below FB.out.bel
        match i, hi with
        | 0, _ => exact hx.ox
        | 1, _ => exact hx.oo
        | 2, _ => exact hy.ox
        | 3, _ => exact hy.oo
        | 4, _ => exact hz.ox
        | 5, _ => exact hz.oo
      · refine six_apart (a := w7.heap.size) (b := w8.heap.size) (c := w9.heap.size) (d := w10.heap.size) Lx.out.ap Ly.out.ap Lz.out.ap (fun k h => ((Rx.out k).1 h).2) (fun k h => ((Rx.out k).2 h).2) (fun k h => (Ry.out k).1 h) (fun k h => (Ry.out k).2 h) (fun k h => ((Rz.out k).1 h).1) (fun k h => ((Rz.out k).2 h).1) Sx.out ?_ Sy.out
        have q1 := Sx.out
        have q2 := Qy.out
        have q3 := Sy.out
        omega
    have HBK : Hid (w25.heap[bk]? = some (.cells #[.slice lao 6 lcap, .slice none 0 0] 37 (0, 0))) := full_blk (FB.out.own (i := 1) (by simp) rfl)
    have HK := hide (apartB_any w25 w2.heap.size bk lao none lcap 0 [⟨.slice xa A1.length xc, A1.length⟩, ⟨.slice xo B1'.length xd, B1'.length⟩, ⟨.slice ya A2.length yc, A2.length⟩, ⟨.slice yo B2'.length yd, B2'.length⟩, ⟨.slice za A1.length zc, A1.length⟩, ⟨.slice zo B1'.length zd, B1'.length⟩] [] (fun i => [zC A1, zC B1', zC A2, zC B2', zC A1, zC B1'].getD i []) (fun _ => []) HLS.out ⟨World.ownsRow_nil _ _ 44 1, fun i hi => (by cases hi), .nil⟩ HBK.out (Nat.le_trans XB.out.size FB.out.bel.size) (by simp) (by simp) (fun i hi => by
      match i, hi with
      | 0, _ => exact hA1
      | 1, _ => exact hB1
      | 2, _ => exact hA2
      | 3, _ => exact hB2
      | 4, _ => exact hA1
      | 5, _ => exact hB1) (fun i hi => (by cases hi)))
    have Xq := hide (bt (bt HX2.out XB.out (Nat.le_refl _)) FB.out.bel (Nat.le_refl _))
    clear HLS HBK FB
    go_wp2_with (fail)
    refine HK.out.mono ?_
    rintro e w26 ⟨rfl, x26⟩
    have Xf := hide (Xq.out.trans (x26.mono HX2.out.size))
    clear HK x26 Xq
    go_wp2
    go_ret
    exact ⟨rfl, Xf.out⟩
end Go.Proofs.YtdgoilkgplnhfaaGreat
