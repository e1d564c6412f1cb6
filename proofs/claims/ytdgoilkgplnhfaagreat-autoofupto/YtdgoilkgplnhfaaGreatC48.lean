/-
  AutoOf answers true. Conditions: lists no longer than a process can hold, a pattern of at most 2^32 bytes.
-/
import Derived.Test.YtdgoilkgplnhfaaGreatC46
import Derived.Test.YtdgoilkgplnhfaaGreatC47
set_option maxRecDepth 100000
set_option maxHeartbeats 16000000
namespace Go.Proofs.YtdgoilkgplnhfaaGreat
open Go.RowKit Go.Lib
theorem full_blk' {w : World} {base g n : Nat} {e : TypeId} {xs : List Value} (h : w.ownsRow base e 1 (.slice (some ⟨g, 0, none⟩) n n) n xs) : w.heap[g]? = some (.cells xs.toArray e (0, 0)) := blk_own h
theorem four_apart {d1 d2 d3 d4 : LD} {a b : Nat} (h12 : ∀ k, d1.v.ownBlock = some k → ¬ d2.v.ownBlock = some k) (h34 : ∀ k, d3.v.ownBlock = some k → ¬ d4.v.ownBlock = some k)
 (r1 : ∀ k, d1.v.ownBlock = some k → k < a) (r2 : ∀ k, d2.v.ownBlock = some k → k < a) (r3 : ∀ k, d3.v.ownBlock = some k → b ≤ k) (r4 : ∀ k, d4.v.ownBlock = some k → b ≤ k) (hab : a ≤ b) : ApartL [d1, d2, d3, d4] := by
 have f : ∀ (x y : LD), (∀ k, x.v.ownBlock = some k → k < a) → (∀ k, y.v.ownBlock = some k → b ≤ k) → ∀ k, x.v.ownBlock = some k → ¬ y.v.ownBlock = some k := fun x y h1 h2 k h4 h5 => by have := h1 k h4; have := h2 k h5; omega
 refine .cons (fun e he => ?_) (.cons (fun e he => ?_) (.cons (fun e he => ?_) (.cons (fun e he => (by cases he)) .nil)))
 · simp only [List.mem_cons, List.not_mem_nil, or_false] at he
   rcases he with rfl | rfl | rfl
   · exact h12
   · exact f _ _ r1 r3
   · exact f _ _ r1 r4
 · simp only [List.mem_cons, List.not_mem_nil, or_false] at he
   rcases he with rfl | rfl
   · exact f _ _ r2 r3
   · exact f _ _ r2 r4
 · rw [List.mem_singleton.1 he]
   exact h34
theorem parseU_any (s : By) (w : World) (hl : s.length ≤ 4294967296) : Calls Tryz.prog 22 #[.string ⟨s.toArray⟩] w fun e w' => (∃ (ao : Option Addr) (cap : Nat) (D : List PD) (k n : Int), e = .returned (.tuple #[.slice ao D.length cap, .int .i64 k, .int .i64 n]) ∧ PcAt w' ao D ∧ ∀ d ∈ D, d.p.set.length ≤ 140737488351232) ∧ Below w.heap.size w w' := by
 refine (parseP_any s w hl).mono ?_
 rintro e w' ⟨h, x⟩
 refine ⟨?_, x⟩
 rcases h with ⟨ao, cap, D, rfl, hR, hat, _⟩ | ⟨n, rfl⟩
 · exact ⟨ao, cap, D, 0, 0, rfl, hat, fun d hd => by have := right_set_len hR d.p (List.mem_map.2 ⟨d, hd, rfl⟩); omega⟩
 · exact ⟨none, 0, [], 50, n, rfl, .inl rfl, fun d hd => by cases hd⟩
theorem autoOf_any (ao : Option Addr) (cap : Nat) (D : List PD) (s : By) (w : World) (hLen : ∀ d ∈ D, d.p.set.length ≤ 140737488351232) (hsl : s.length ≤ 4294967296) (hat : PcAt w ao D) :
 Calls Tryz.prog 4 #[.slice ao D.length cap, .string ⟨s.toArray⟩] w fun e w' => e = .returned (.bool true) ∧ Below w.heap.size w w' := by
 have PC := hide hat
 have HLEN := hide hLen
 have XB : Hid (Below w.heap.size w w) := Below.refl _ _
 obtain ⟨c1, A1, B1', m1, hA1, hB1, hF1⟩ := OfP.form (D.map PD.p)
 have HF1 := hide hF1
 clear hat hLen hF1
 by_cases h20 : (1048576 : Int) < (D.length : Int)
 case pos =>
  go_enter Tryz.func4, Tryz.ntmps4
  go_wp2
  go_ret
  exact ⟨rfl, XB.out⟩
 have HK := hide (known_any w)
 go_enter Tryz.func4, Tryz.ntmps4
 go_upto_region 4 with (go_at_call 10; refine HK.out.mono ?_; rintro e w4 ⟨rfl, x4⟩; have X := hide x4; clear x4)
 clear HK
 replace PC := hide (PC.out.below X.out)
 replace XB := hide (bt XB.out X.out (Nat.le_refl _))
 have HK := hide (of_any ao cap D w4 HLEN.out PC.out)
 go_upto_region 5 with (go_at_call 20; refine HK.out.mono ?_; rintro e w5 ⟨hP, x⟩; obtain ⟨xa, xc, xo, xd, rfl, hO⟩ := HF1.out _ _ _ hP; have Lx := hide hO; replace X := hide x; clear x hP hO)
 clear HK
 have Rx : Hid (∀ k, ((Value.slice xa A1.length xc).ownBlock = some k → w4.heap.size ≤ k ∧ k < w5.heap.size) ∧ ((Value.slice xo B1'.length xd).ownBlock = some k → w4.heap.size ≤ k ∧ k < w5.heap.size)) := fun k => ⟨World.ownsRow.lt Lx.out.ox k, World.ownsRow.lt Lx.out.oo k⟩
 replace Lx := hide (Lx.out.mono (show w.heap.size ≤ w4.heap.size from XB.out.size))
 have Qx : Hid (w4.heap.size ≤ w5.heap.size) := X.out.size
 replace PC := hide (PC.out.below X.out)
 replace XB := hide (bt XB.out X.out (Nat.le_refl _))
 obtain ⟨w6, hwm⟩ : ∃ w6, w6 = w5.alloc (.cells #[.string ⟨c1.toArray⟩, (.slice xa A1.length xc), (.slice xo B1'.length xd)] 24) := ⟨_, rfl⟩
 have T6 : Hid (At3 w6 w5.heap.size c1 (.slice xa A1.length xc) (.slice xo B1'.length xd)) := by unfold Hid; rw [hwm]; exact At3.new _ _ _ _
 have Y : Hid (Below w5.heap.size w5 w6) := by unfold Hid; rw [hwm]; exact al (Below.refl _ _) _
 rw [← hwm]
 clear hwm
 replace PC := hide (PC.out.below Y.out)
 replace Lx := hide (Lx.out.below Y.out)
 replace XB := hide (bt XB.out Y.out (Nat.le_refl _))
 obtain ⟨p6, hpn⟩ : ∃ p6, p6 = w5.heap.size := ⟨_, rfl⟩
 rw [← hpn] at T6 ⊢
 clear hpn
 have Sx : Hid (w5.heap.size ≤ w6.heap.size) := Y.out.size
 clear Y
 have HK := hide (ofD_any ao cap D w6 HLEN.out PC.out)
 go_upto_region 6 with (go_at_call 21; refine HK.out.mono ?_; rintro e w7 ⟨hP, x⟩; obtain ⟨ua, uc, uo, ud, rfl, hO⟩ := HF1.out _ _ _ hP; have Lu := hide hO; replace X := hide x; clear x hP hO)
 clear HK
 have Ru : Hid (∀ k, ((Value.slice ua A1.length uc).ownBlock = some k → w6.heap.size ≤ k ∧ k < w7.heap.size) ∧ ((Value.slice uo B1'.length ud).ownBlock = some k → w6.heap.size ≤ k ∧ k < w7.heap.size)) := fun k => ⟨World.ownsRow.lt Lu.out.ox k, World.ownsRow.lt Lu.out.oo k⟩
 replace Lu := hide (Lu.out.mono (show w.heap.size ≤ w6.heap.size from XB.out.size))
 have Qu : Hid (w6.heap.size ≤ w7.heap.size) := X.out.size
 replace PC := hide (PC.out.below X.out)
 replace Lx := hide (Lx.out.below X.out)
 replace T6 := hide (T6.out.below X.out)
 replace XB := hide (bt XB.out X.out (Nat.le_refl _))
 obtain ⟨w8, hwm⟩ : ∃ w8, w8 = w7.alloc (.cells #[.string ⟨c1.toArray⟩, (.slice ua A1.length uc), (.slice uo B1'.length ud)] 24) := ⟨_, rfl⟩
 have T8 : Hid (At3 w8 w7.heap.size c1 (.slice ua A1.length uc) (.slice uo B1'.length ud)) := by unfold Hid; rw [hwm]; exact At3.new _ _ _ _
 have Y : Hid (Below w7.heap.size w7 w8) := by unfold Hid; rw [hwm]; exact al (Below.refl _ _) _
 rw [← hwm]
 clear hwm
 replace PC := hide (PC.out.below Y.out)
 replace Lx := hide (Lx.out.below Y.out)
 replace T6 := hide (T6.out.below Y.out)
 replace Lu := hide (Lu.out.below Y.out)
 replace XB := hide (bt XB.out Y.out (Nat.le_refl _))
 obtain ⟨p8, hpn⟩ : ∃ p8, p8 = w7.heap.size := ⟨_, rfl⟩
 rw [← hpn] at T8 ⊢
 clear hpn
 have Su : Hid (w7.heap.size ≤ w8.heap.size) := Y.out.size
 clear Y
 have HK := hide (parseU_any s w8 hsl)
 go_upto_region 7 with (go_at_call 22; refine HK.out.mono ?_; rintro e w9 ⟨⟨ao2, cap2, D2, k2, n2, rfl, hp2, hl2⟩, x⟩; have PD2 := hide hp2; have HL2 := hide hl2; replace X := hide x; clear x hp2 hl2)
 clear HK
 obtain ⟨c2, A2, B2', m2, hA2, hB2, hF2⟩ := OfP.form (D2.map PD.p)
 have HF2 := hide hF2
 clear hF2
 have Sp : Hid (w8.heap.size ≤ w9.heap.size) := X.out.size
 replace PC := hide (PC.out.below X.out)
 replace Lx := hide (Lx.out.below X.out)
 replace T6 := hide (T6.out.below X.out)
 replace Lu := hide (Lu.out.below X.out)
 replace T8 := hide (T8.out.below X.out)
 replace XB := hide (bt XB.out X.out (Nat.le_refl _))
 have HK := hide (of_any ao2 cap2 D2 w9 HL2.out PD2.out)
 go_upto_region 8 with (go_at_call 20; refine HK.out.mono ?_; rintro e w10 ⟨hP, x⟩; obtain ⟨ya, yc, yo, yd, rfl, hO⟩ := HF2.out _ _ _ hP; have Ly := hide hO; replace X := hide x; clear x hP hO)
 clear HK
 have Ry : Hid (∀ k, ((Value.slice ya A2.length yc).ownBlock = some k → w9.heap.size ≤ k ∧ k < w10.heap.size) ∧ ((Value.slice yo B2'.length yd).ownBlock = some k → w9.heap.size ≤ k ∧ k < w10.heap.size)) := fun k => ⟨World.ownsRow.lt Ly.out.ox k, World.ownsRow.lt Ly.out.oo k⟩
 replace Ly := hide (Ly.out.mono (show w.heap.size ≤ w9.heap.size from XB.out.size))
 have Qy : Hid (w9.heap.size ≤ w10.heap.size) := X.out.size
 replace PC := hide (PC.out.below X.out)
 replace Lx := hide (Lx.out.below X.out)
 replace T6 := hide (T6.out.below X.out)
 replace Lu := hide (Lu.out.below X.out)
 replace T8 := hide (T8.out.below X.out)
 replace PD2 := hide (PD2.out.below X.out)
 replace XB := hide (bt XB.out X.out (Nat.le_refl _))
 obtain ⟨w11, hwm⟩ : ∃ w11, w11 = w10.alloc (.cells #[.string ⟨c2.toArray⟩, (.slice ya A2.length yc), (.slice yo B2'.length yd)] 24) := ⟨_, rfl⟩
 have T13 : Hid (At3 w11 w10.heap.size c2 (.slice ya A2.length yc) (.slice yo B2'.length yd)) := by unfold Hid; rw [hwm]; exact At3.new _ _ _ _
 have Y : Hid (Below w10.heap.size w10 w11) := by unfold Hid; rw [hwm]; exact al (Below.refl _ _) _
 rw [← hwm]
 clear hwm
 replace PC := hide (PC.out.below Y.out)
 replace Lx := hide (Lx.out.below Y.out)
 replace T6 := hide (T6.out.below Y.out)
 replace Lu := hide (Lu.out.below Y.out)
 replace T8 := hide (T8.out.below Y.out)
 replace PD2 := hide (PD2.out.below Y.out)
 replace Ly := hide (Ly.out.below Y.out)
 replace XB := hide (bt XB.out Y.out (Nat.le_refl _))
 obtain ⟨p13, hpn⟩ : ∃ p13, p13 = w10.heap.size := ⟨_, rfl⟩
 rw [← hpn] at T13 ⊢
 clear hpn
 have Sy : Hid (w10.heap.size ≤ w11.heap.size) := Y.out.size
 clear Y
 have HK := hide (ofD_any ao2 cap2 D2 w11 HL2.out PD2.out)
 go_upto_region 9 with (go_at_call 21; refine HK.out.mono ?_; rintro e w12 ⟨hP, x⟩; obtain ⟨va, vc, vo, vd, rfl, hO⟩ := HF2.out _ _ _ hP; have Lv := hide hO; replace X := hide x; clear x hP hO)
 clear HK
 have Rv : Hid (∀ k, ((Value.slice va A2.length vc).ownBlock = some k → w11.heap.size ≤ k ∧ k < w12.heap.size) ∧ ((Value.slice vo B2'.length vd).ownBlock = some k → w11.heap.size ≤ k ∧ k < w12.heap.size)) := fun k => ⟨World.ownsRow.lt Lv.out.ox k, World.ownsRow.lt Lv.out.oo k⟩
 replace Lv := hide (Lv.out.mono (show w.heap.size ≤ w11.heap.size from XB.out.size))
 have Qv : Hid (w11.heap.size ≤ w12.heap.size) := X.out.size
 replace PC := hide (PC.out.below X.out)
 replace Lx := hide (Lx.out.below X.out)
 replace T6 := hide (T6.out.below X.out)
 replace Lu := hide (Lu.out.below X.out)
 replace T8 := hide (T8.out.below X.out)
 replace PD2 := hide (PD2.out.below X.out)
 replace Ly := hide (Ly.out.below X.out)
 replace T13 := hide (T13.out.below X.out)
 replace XB := hide (bt XB.out X.out (Nat.le_refl _))
 obtain ⟨w13, hwm⟩ : ∃ w13, w13 = w12.alloc (.cells #[.string ⟨c2.toArray⟩, (.slice va A2.length vc), (.slice vo B2'.length vd)] 24) := ⟨_, rfl⟩
 have T15 : Hid (At3 w13 w12.heap.size c2 (.slice va A2.length vc) (.slice vo B2'.length vd)) := by unfold Hid; rw [hwm]; exact At3.new _ _ _ _
 have Y : Hid (Below w12.heap.size w12 w13) := by unfold Hid; rw [hwm]; exact al (Below.refl _ _) _
 rw [← hwm]
 clear hwm
 replace PC := hide (PC.out.below Y.out)
 replace Lx := hide (Lx.out.below Y.out)
 replace T6 := hide (T6.out.below Y.out)
 replace Lu := hide (Lu.out.below Y.out)
 replace T8 := hide (T8.out.below Y.out)
 replace PD2 := hide (PD2.out.below Y.out)
 replace Ly := hide (Ly.out.below Y.out)
 replace T13 := hide (T13.out.below Y.out)
 replace Lv := hide (Lv.out.below Y.out)
 replace XB := hide (bt XB.out Y.out (Nat.le_refl _))
 obtain ⟨p15, hpn⟩ : ∃ p15, p15 = w12.heap.size := ⟨_, rfl⟩
 rw [← hpn] at T15 ⊢
 clear hpn
 have Sv : Hid (w12.heap.size ≤ w13.heap.size) := Y.out.size
 clear Y
 have HK := hide (sameZ_any c1 c1 xa xo ua uo xc xd uc ud A1 B1' A1 B1' w13 (by omega) (by omega) (own_z Lx.out.ox) (own_z Lx.out.oo) (own_z Lu.out.ox) (own_z Lu.out.oo))
 unfold auV at HK
 obtain ⟨-, c0, c1, c2⟩ := T6.out
 obtain ⟨-, d0, d1, d2⟩ := T8.out
 go_upto_region 10 with (go_at_call 14; refine HK.out.mono ?_; rintro e w14 ⟨⟨b, rfl, hb⟩, x⟩; obtain rfl : b = true := (hb.2 ⟨rfl, rfl, rfl⟩); replace X := hide x; clear x hb)
 clear HK
 clear c0 c1 c2
 clear d0 d1 d2
 replace PC := hide (PC.out.below X.out)
 replace Lx := hide (Lx.out.below X.out)
 replace T6 := hide (T6.out.below X.out)
 replace Lu := hide (Lu.out.below X.out)
 replace T8 := hide (T8.out.below X.out)
 replace PD2 := hide (PD2.out.below X.out)
 replace Ly := hide (Ly.out.below X.out)
 replace T13 := hide (T13.out.below X.out)
 replace Lv := hide (Lv.out.below X.out)
 replace T15 := hide (T15.out.below X.out)
 replace XB := hide (bt XB.out X.out (Nat.le_refl _))
 have HK := hide (sameZ_any c2 c2 ya yo va vo yc yd vc vd A2 B2' A2 B2' w14 (by omega) (by omega) (own_z Ly.out.ox) (own_z Ly.out.oo) (own_z Lv.out.ox) (own_z Lv.out.oo))
 unfold auV at HK
 obtain ⟨-, c0, c1, c2⟩ := T13.out
 obtain ⟨-, d0, d1, d2⟩ := T15.out
 go_upto_region 11 with (go_at_call 14; refine HK.out.mono ?_; rintro e w15 ⟨⟨b, rfl, hb⟩, x⟩; obtain rfl : b = true := (hb.2 ⟨rfl, rfl, rfl⟩); replace X := hide x; clear x hb)
 clear HK
 clear c0 c1 c2
 clear d0 d1 d2
 replace PC := hide (PC.out.below X.out)
 replace Lx := hide (Lx.out.below X.out)
 replace T6 := hide (T6.out.below X.out)
 replace Lu := hide (Lu.out.below X.out)
 replace T8 := hide (T8.out.below X.out)
 replace PD2 := hide (PD2.out.below X.out)
 replace Ly := hide (Ly.out.below X.out)
 replace T13 := hide (T13.out.below X.out)
 replace Lv := hide (Lv.out.below X.out)
 replace T15 := hide (T15.out.below X.out)
 replace XB := hide (bt XB.out X.out (Nat.le_refl _))
 have n1 : (m1 != m1) = false := by simp
 have n2 : (m2 != m2) = false := by simp
 go_upto_region 13 with fail
 clear n1 n2 X
 have FB0 := hide ((Fr.start w15).box 37 [.slice none 0 0, .slice none 0 0] (by simp [maxLen]))
 go_upto_region 14 with fail
 obtain ⟨w22, hw22⟩ : ∃ w22, w22 = w15.alloc (.cells #[.slice none 0 0, .slice none 0 0] 37) := ⟨_, rfl⟩
 obtain ⟨bk, hbk⟩ : ∃ bk, bk = w15.heap.size := ⟨_, rfl⟩
 have FB : Hid (Fr w15 [(.slice none 0 0, 22, []), (.slice (some ⟨bk, 0, none⟩) 2 2, 37, [.slice none 0 0, .slice none 0 0])] w22) := by rw [hw22, hbk]; exact Fr.front (FB0.out.bare 22)
 rw [← hw22, ← hbk]
 clear hw22 hbk FB0
 have HK := hide (takesA_any c1 xa xo A1.length xc B1'.length xd bk w15 w22 _ _ (by simp) FB.out)
 unfold auV at HK
 obtain ⟨-, e0, e1, e2⟩ := T6.out.below FB.out.bel
 go_upto_region 15 with (go_at_call 18; refine HK.out.mono ?_; rintro e w23 ⟨rfl, lv0, F⟩; have FN : Hid (Fr w15 [(lv0, 22, [.slice xa A1.length xc, .slice xo B1'.length xd]), (.slice (some ⟨bk, 0, none⟩) 2 2, 37, [lv0, .slice none 0 0])] w23) := F; clear F)
 clear HK e0 e1 e2 FB
 obtain ⟨FB, hFB⟩ : ∃ FB : Hid (Fr w15 [(lv0, 22, [.slice xa A1.length xc, .slice xo B1'.length xd]), (.slice (some ⟨bk, 0, none⟩) 2 2, 37, [lv0, .slice none 0 0])] w23), FB = FN := ⟨FN, rfl⟩
 clear hFB FN
 have HK := hide (takesA_any c2 ya yo A2.length yc B2'.length yd bk w15 w23 _ _ (by simp) FB.out)
 unfold auV at HK
 obtain ⟨-, e0, e1, e2⟩ := T13.out.below FB.out.bel
 go_upto_region 16 with (go_at_call 18; refine HK.out.mono ?_; rintro e w24 ⟨rfl, lv1, F⟩; have FN : Hid (Fr w15 [(lv1, 22, [.slice xa A1.length xc, .slice xo B1'.length xd, .slice ya A2.length yc, .slice yo B2'.length yd]), (.slice (some ⟨bk, 0, none⟩) 2 2, 37, [lv1, .slice none 0 0])] w24) := F; clear F)
 clear HK e0 e1 e2 FB
 obtain ⟨FB, hFB⟩ : ∃ FB : Hid (Fr w15 [(lv1, 22, [.slice xa A1.length xc, .slice xo B1'.length xd, .slice ya A2.length yc, .slice yo B2'.length yd]), (.slice (some ⟨bk, 0, none⟩) 2 2, 37, [lv1, .slice none 0 0])] w24), FB = FN := ⟨FN, rfl⟩
 clear hFB FN
 obtain ⟨lao, lcap, hv⟩ := FB.out.shape (i := 0) (by simp) rfl
 have hv : lv1 = .slice lao 4 lcap := hv
 subst hv
 have HLS : Hid (LsAt 22 3 1 w24 w.heap.size (.slice lao 4 lcap) [⟨.slice xa A1.length xc, A1.length⟩, ⟨.slice xo B1'.length xd, B1'.length⟩, ⟨.slice ya A2.length yc, A2.length⟩, ⟨.slice yo B2'.length yd, B2'.length⟩] (fun i => [zC A1, zC B1', zC A2, zC B2'].getD i [])) := by
  refine ⟨row_mono (FB.out.own (i := 0) (by simp) rfl) XB.out.size, fun i hi => ?_, ?_⟩
  · have hx := Lx.out.below FB.out.bel
    have hy := Ly.out.below FB.out.bel
    match i, hi with
    | 0, _ => exact hx.ox
    | 1, _ => exact hx.oo
    | 2, _ => exact hy.ox
    | 3, _ => exact hy.oo
  · refine four_apart (a := w5.heap.size) (b := w9.heap.size) Lx.out.ap Ly.out.ap (fun k h => ((Rx.out k).1 h).2) (fun k h => ((Rx.out k).2 h).2) (fun k h => ((Ry.out k).1 h).1) (fun k h => ((Ry.out k).2 h).1) ?_
    have q1 := Sx.out
    have q2 := Qu.out
    have q3 := Su.out
    have q4 := Sp.out
    omega
 have HBK : Hid (w24.heap[bk]? = some (.cells #[.slice lao 4 lcap, .slice none 0 0] 37 (0, 0))) := full_blk' (FB.out.own (i := 1) (by simp) rfl)
 have HK := hide (apartB_any w24 w.heap.size bk lao none lcap 0 [⟨.slice xa A1.length xc, A1.length⟩, ⟨.slice xo B1'.length xd, B1'.length⟩, ⟨.slice ya A2.length yc, A2.length⟩, ⟨.slice yo B2'.length yd, B2'.length⟩] [] (fun i => [zC A1, zC B1', zC A2, zC B2'].getD i []) (fun _ => []) HLS.out ⟨World.ownsRow_nil _ _ 44 1, fun i hi => (by cases hi), .nil⟩ HBK.out (Nat.le_trans XB.out.size FB.out.bel.size) (by simp) (by simp) (fun i hi => by
  match i, hi with
  | 0, _ => exact hA1
  | 1, _ => exact hB1
  | 2, _ => exact hA2
  | 3, _ => exact hB2) (fun i hi => (by cases hi)))
 have Xq := hide (bt XB.out FB.out.bel (Nat.le_refl _))
 clear HLS HBK FB
 go_wp2_with (fail)
 refine HK.out.mono ?_
 rintro e w26 ⟨rfl, x26⟩
 have Xf := hide (Xq.out.trans x26)
 clear HK x26 Xq
 go_wp2
 go_ret
 exact ⟨rfl, Xf.out⟩
end Go.Proofs.YtdgoilkgplnhfaaGreat
