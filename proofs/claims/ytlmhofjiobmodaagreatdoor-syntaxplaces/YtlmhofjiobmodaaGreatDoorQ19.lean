/-
  The writer's row, where it goes well. Condition: its parts are written so.
-/
import Derived.Test.YtlmhofjiobmodaaGreatDoorQ18
namespace Go.Proofs.YtlmhofjiobmodaaGreatDoor
open Go.RowKit Go.Lib

set_option maxRecDepth 100000 in
set_option maxHeartbeats 8000000 in
theorem wrow_ok {f : Nat} (hC : CondC f) {w : World} {base wp b0 deep parts : Nat} {word : By} {kd : Int} {c : CT} {vs : List Value} {bs : List Nat} {s x : WS} (hpa : parts ≤ 3) (hd : deep + f = 16) (hs : ∀ d ∈ c.kids, Smp f d) (h : WrA w base wp s.1 s.2) (hc : CtAt w b0 c vs bs) (hx : rowW (fun d => condW f d parts) word c.kids s = some x) :
    Calls Tryz.prog 140 #[.pointer (some ⟨wp, 0, none⟩), .agg vs.toArray, .agg #[.string ⟨word.toArray⟩, .int .i64 kd, .int .i64 (parts : Nat)], .int .i64 (deep : Nat)] w (PostW base wp w x) := by
  unfold rowW at hx
  have hn : 2 ≤ c.kids.length ∧ c.kids.length ≤ 32 := Decidable.byContradiction fun h => by rw [if_neg h] at hx; cases hx
  rw [if_pos hn] at hx
  have hc0 := hc
  obtain ⟨a3, c3, a4, c4, a5, c5, a6, c6, rfl⟩ := hc.eight
  obtain ⟨cs, ks, hrow, hkd, _⟩ := hc.kidsRow
  obtain ⟨ao, cp, hv, hav⟩ := own_shape hrow
  obtain ⟨g, hg⟩ := hav (by omega)
  injection hv with hv1 hv2 hv3
  subst hv1
  subst hg
  clear hv2 hv3 hav
  have HRW := hide hrow
  have HKD := hide hkd
  have HSS := hide hs
  obtain ⟨W, hW⟩ : ∃ W, W = (w.alloc (.cells #[.int .i64 c.k, .string ⟨c.nm.toArray⟩, .string ⟨c.tx.toArray⟩, .slice a3 c.pre.length c3, .slice a4 c.sp.length c4, .slice a5 c.ns.length c5, .slice (some ⟨g, 0, none⟩) c.kids.length c6, .int .i64 c.p] 60)).alloc (.cells #[.string ⟨word.toArray⟩, .int .i64 kd, .int .i64 (parts : Nat)] 151) := ⟨_, rfl⟩
  obtain ⟨b1, hb1⟩ : ∃ b, b = w.heap.size := ⟨_, rfl⟩
  obtain ⟨b2, hb2⟩ : ∃ b, b = w.heap.size + 1 := ⟨_, rfl⟩
  have XW := hide (show Below w.heap.size w W by rw [hW]; exact al (al (Below.refl _ _) _) _)
  have B1 := hide (show W.heap[b1]? = some (.cells #[.int .i64 c.k, .string ⟨c.nm.toArray⟩, .string ⟨c.tx.toArray⟩, .slice a3 c.pre.length c3, .slice a4 c.sp.length c4, .slice a5 c.ns.length c5, .slice (some ⟨g, 0, none⟩) c.kids.length c6, .int .i64 c.p] 60 (0, 0)) by
    rw [hW, hb1]
    exact (heap_alloc_old _ _ (by simp)).trans (heap_alloc_new w _))
  have B2 := hide (show W.heap[b2]? = some (.cells #[.string ⟨word.toArray⟩, .int .i64 kd, .int .i64 (parts : Nat)] 151 (0, 0)) by
    rw [hW, hb2, show w.heap.size + 1 = (w.alloc (.cells #[.int .i64 c.k, .string ⟨c.nm.toArray⟩, .string ⟨c.tx.toArray⟩, .slice a3 c.pre.length c3, .slice a4 c.sp.length c4, .slice a5 c.ns.length c5, .slice (some ⟨g, 0, none⟩) c.kids.length c6, .int .i64 c.p] 60)).heap.size by simp]
    exact heap_alloc_new _ _)
  have RW := hide (h.below XW.out)
  have HRW2 := hide (own_below HRW.out XW.out)
  have HKD2 := hide (KidsAt.below HKD.out XW.out)
  have HM := hide must_ok
  have HWD := hide (fun V (y a : WS) (r : WrA V base wp y.1 y.2) (e : wrdW word y = some a) => word_ok r e)
  have HCC := hide (fun (d : CT) (hd' : d ∈ c.kids) (V : World) (us : List Value) (bs2 : List Nat) (y a : WS) (r : WrA V base wp y.1 y.2) (k : CtAt V b0 d us bs2) (e : condW f d parts y = some a) => hC d parts (deep + 1) y a V base wp b0 us bs2 hpa (by omega) (HSS.out d hd') r k e)
  have hde : ((deep + 1 : Nat) : Int) = (deep : Int) + 1 := by omega
  simp only [hde] at HCC
  clear hde
  have HX := hide hx
  have HN := hide hn
  have HDD := hide hd
  have h1 : (2 : Int) ≤ (c.kids.length : Int) := by omega
  have h2 : (c.kids.length : Int) ≤ 32 := by omega
  have p6 : W.cell? ⟨b1, 6, none⟩ = some (.slice (some ⟨g, 0, none⟩) c.kids.length c6) := by rw [cell_of_row _ _ _ _ _ _ B1.out]; rfl
  clear hx hc hs h hrow hkd hd hc0 hC hn HSS HRW HKD hpa
  generalize c.kids = KS at *
  go_enter Tryz.func140, Tryz.ntmps140
  go_upto_region 1 with fail
  rw [← hb2, ← hW, ← hb1]
  clear hW hb1 hb2
  go_upto_region 2 with (go_at_call 65; refine (HM.out _).mono ?_; rintro e w2 ⟨rfl, hw⟩; have hw2 := hw.symm; clear hw; subst hw2)
  go_wp2
  clear p6 h1 h2
  go_loopg [8, 9, 24] (KS.length + 1) (fun gg x8 x9 x24 wr => ∃ (k : Nat) (y : WS), x24 = .int .i64 (k : Nat) ∧ k ≤ KS.length ∧ Hid (kidsI (fun d => condW f d parts) word (KS.drop k) k y = some x) ∧ Hid (WrA wr base wp y.1 y.2) ∧ Hid (KpO 5 base wp W wr) ∧ KS.length - k < gg)
  case atStart => exact ⟨0, s, rfl, by omega, HX, RW, hide (KpO.refl _ _), by omega⟩
  case round =>
    obtain ⟨k, y, rfl, hk, HP, RR, XR, hg⟩ := hrel
    have HG := hide hg
    clear hg HX
    by_cases hlt : k < KS.length
    · have hlt' : (k : Int) < (KS.length : Int) := by omega
      obtain ⟨d, hdd⟩ : ∃ d, d = KS[k] := ⟨_, rfl⟩
      have HME : Hid (d ∈ KS) := by
        unfold Hid
        rw [hdd]
        exact List.getElem_mem hlt
      have HDR := HP.out
      rw [List.drop_eq_getElem_cons hlt, ← hdd] at HDR
      obtain ⟨a1, ha1, hx1⟩ := Option.bind_eq_some_iff.1 HDR
      obtain ⟨y1, hb1, hx2⟩ := Option.bind_eq_some_iff.1 hx1
      have HX1 := hide hx2
      have HA1 := hide ha1
      have HB1 := hide hb1
      have HRR := hide (XR.out.ownS HRW2.out (by decide) RW.out)
      have HKR : Hid (KidsAt wr b0 KS cs ks) := by
        refine KidsAt.kept XR.out _ _ _ HKD2.out (fun j hj hf => ?_)
        obtain ⟨cs', t, f', h1, h2, h3⟩ := KidsAt.ty HKD2.out j hj
        rcases hf with e | ⟨_, c', f'', e⟩
        · exact RW.out.ne h1 h3 e
        · rw [h1] at e
          injection e with e
          injection e with _ e _
          exact h2 e
      obtain ⟨us, bs2, hcu, hcell, _⟩ := HKR.out.get k hlt
      rw [← hdd] at hcu
      obtain ⟨d3, e3, d4, e4, d5, e5, d6, e6, rfl⟩ := hcu.eight
      have HCU := hide hcu
      have HK := hide hlt
      clear hcu HDR hx2 hx1 ha1 hb1 HP hdd hlt
      have hcl : ∀ r, r < 8 → wr.cell? ⟨g, k * 8 + r, none⟩ = [.int .i64 d.k, .string ⟨d.nm.toArray⟩, .string ⟨d.tx.toArray⟩, .slice d3 d.pre.length e3, .slice d4 d.sp.length e4, .slice d5 d.ns.length e5, .slice d6 d.kids.length e6, .int .i64 d.p][r]? := fun r hr => by
        rw [World.ownsRow.cellAt HRR.out (k * 8 + r) (by have := HK.out; omega), hcell r hr]
      have q0 := hcl 0 (by omega)
      have q1 := hcl 1 (by omega)
      have q2 := hcl 2 (by omega)
      have q3 := hcl 3 (by omega)
      have q4 := hcl 4 (by omega)
      have q5 := hcl 5 (by omega)
      have q6 := hcl 6 (by omega)
      have q7 := hcl 7 (by omega)
      simp only [List.getElem?_cons_zero, List.getElem?_cons_succ, Nat.add_zero] at q0 q1 q2 q3 q4 q5 q6 q7
      clear hcl hcell HRR HKR
      have HSB := hide (heap_alloc_new wr (.cells #[.int .i64 d.k, .string ⟨d.nm.toArray⟩, .string ⟨d.tx.toArray⟩, .slice d3 d.pre.length e3, .slice d4 d.sp.length e4, .slice d5 d.ns.length e5, .slice d6 d.kids.length e6, .int .i64 d.p] 60))
      have XK : Hid (Below wr.heap.size wr (wr.alloc (.cells #[.int .i64 d.k, .string ⟨d.nm.toArray⟩, .string ⟨d.tx.toArray⟩, .slice d3 d.pre.length e3, .slice d4 d.sp.length e4, .slice d5 d.ns.length e5, .slice d6 d.kids.length e6, .int .i64 d.p] 60))) := al (Below.refl _ _) _
      have HC1 := hide (HCU.out.below XK.out)
      have RK := hide (RR.out.below XK.out)
      have XX := hide (XR.out.trans (KpO.of_below XK.out))
      go_upto_region 5 with fail
      clear q0 q1 q2 q3 q4 q5 q6 q7 HCU RR XR XK
      obtain ⟨P, hP⟩ : ∃ P, P = wr.heap.size := ⟨_, rfl⟩
      rw [← hP] at HSB ⊢
      clear hP
      generalize wr.alloc (.cells #[.int .i64 d.k, .string ⟨d.nm.toArray⟩, .string ⟨d.tx.toArray⟩, .slice d3 d.pre.length e3, .slice d4 d.sp.length e4, .slice d5 d.ns.length e5, .slice d6 d.kids.length e6, .int .i64 d.p] 60) = wk at *
      have fw2 : IntKind.i64.wrap ((k : Int) + 1) = ((k + 1 : Nat) : Int) := by have := HN.out; have := HK.out; simp [IntKind.wrap, IntKind.bits, IntKind.signed]; omega
      have fw : IntKind.i64.wrap ((deep : Int) + 1) = (deep : Int) + 1 := by have := HDD.out; simp [IntKind.wrap, IntKind.bits, IntKind.signed]; omega
      by_cases h0 : k = 0
      · have hgt : ¬ ((k : Nat) : Int) > 0 := by omega
        have ea : y = a1 := by
          have := HA1.out
          rw [if_pos h0] at this
          exact Option.some.inj this
        have HH0 := hide h0
        clear h0
        subst ea
        obtain ⟨q0, q1, q2, q3, q4, q5, q6, q7⟩ := ld8 HSB.out
        have HBX := hide (XX.out.box B2.out (by decide) (RW.out.ne B2.out (by decide)))
        have u2 : wk.cell? ⟨b2, 2, none⟩ = some (.int .i64 (parts : Nat)) := by rw [cell_of_row _ _ _ _ _ _ HBX.out]; rfl
        have HCB := hide (HCC.out d HME.out wk _ bs2 y y1 RK.out HC1.out HB1.out)
        go_wp2_with (go_at_call 106; refine HCB.out.mono ?_; rintro e w3 ⟨rfl, r3, x3⟩; have R3 := hide r3; have X3 := hide (XX.out.trans x3); clear r3 x3)
        go_roundg (KS.length - (k + 1) + 1)
        case measure => have := HG.out; have := HK.out; omega
        case rel => exact ⟨k + 1, y1, by first | rfl | (rw [show wrap64 ((k : Int) + 1) = ((k + 1 : Nat) : Int) from fw2]), by have := HK.out; omega, HX1, R3, X3, by omega⟩
      · have hgt : (0 : Int) < (k : Int) := by omega
        have ea : wrdW word y = some a1 := by
          have := HA1.out
          rw [if_neg h0] at this
          exact this
        have HWO := hide (HWD.out wk y a1 RK.out ea)
        have HBX := hide (XX.out.box B2.out (by decide) (RW.out.ne B2.out (by decide)))
        have u0 : wk.cell? ⟨b2, 0, none⟩ = some (.string ⟨word.toArray⟩) := by rw [cell_of_row _ _ _ _ _ _ HBX.out]; rfl
        clear ea h0 HA1
        go_upto_region 7 with (go_at_call 103; refine HWO.out.mono ?_; rintro e w2 ⟨rfl, r2, x2⟩; have R2 := hide r2; have X2 := hide x2; clear r2 x2)
        clear u0 HWO
        have HSB2 := hide (X2.out.box HSB.out (by decide) (RK.out.ne HSB.out (by decide)))
        have HBX2 := hide (X2.out.box HBX.out (by decide) (RK.out.ne HBX.out (by decide)))
        have HC2 := hide (HC1.out.kpo RK.out X2.out)
        have XX2 := hide (XX.out.trans X2.out)
        obtain ⟨q0, q1, q2, q3, q4, q5, q6, q7⟩ := ld8 HSB2.out
        have u2 : w2.cell? ⟨b2, 2, none⟩ = some (.int .i64 (parts : Nat)) := by rw [cell_of_row _ _ _ _ _ _ HBX2.out]; rfl
        have HCB := hide (HCC.out d HME.out w2 _ bs2 a1 y1 R2.out HC2.out HB1.out)
        go_wp2_with (go_at_call 106; refine HCB.out.mono ?_; rintro e w3 ⟨rfl, r3, x3⟩; have R3 := hide r3; have X3 := hide (XX2.out.trans x3); clear r3 x3)
        go_roundg (KS.length - (k + 1) + 1)
        case measure => have := HG.out; have := HK.out; omega
        case rel => exact ⟨k + 1, y1, by first | rfl | (rw [show wrap64 ((k : Int) + 1) = ((k + 1 : Nat) : Int) from fw2]), by have := HK.out; omega, HX1, R3, X3, by omega⟩
    · have hlt' : ¬ (k : Int) < (KS.length : Int) := by omega
      have HF := HP.out
      rw [List.drop_eq_nil_of_le (by omega)] at HF
      obtain rfl : y = x := Option.some.inj HF
      clear HF HP hlt
      go_wp2
      go_end0
      exact ⟨rfl, RR.out, (KpO.of_below XW.out).trans XR.out⟩
end Go.Proofs.YtlmhofjiobmodaaGreatDoor
