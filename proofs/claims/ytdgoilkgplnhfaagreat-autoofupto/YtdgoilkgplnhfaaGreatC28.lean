/-
  The document's parts by its contract: states that have the same label for each text that follows, or that there are too many. Condition: the automaton may be; states and columns that are.
-/
import Derived.Test.YtdgoilkgplnhfaaGreatC27
set_option maxRecDepth 100000
set_option maxHeartbeats 16000000
namespace Go.Proofs.YtdgoilkgplnhfaaGreat
open Go.RowKit Go.Lib
def KpR (w0 : World) (gn : Nat) (R1 : List VR) (ao : Option Addr) (L : List Nat) : Prop := ∀ V x y NU, Fr w0 (x :: y :: (.slice (some ⟨gn, 0, none⟩) 65536 65536, 3, nCells NU) :: R1) V → NAt V ao L
section
variable {w0 V : World} {gn : Nat} {R1 : List VR} {ao : Option Addr} {L NU : List Nat}
theorem KpR.old (h : NAt w0 ao L) : KpR w0 gn R1 ao L := fun _ _ _ _ F => h.below F.bel
theorem KpR.more (h : KpR w0 gn R1 ao L) (r : VR) : KpR w0 gn (r :: R1) ao L := fun V x y NU F => h V x y NU F.drop3
theorem KpR.head {n cap : Nat} : KpR w0 gn ((.slice ao n cap, 3, nCells L) :: R1) ao L := fun V x y NU F => by
 obtain ⟨a, c, e, h⟩ := F.nat (i := 3) (by simp) rfl
 simp only [Value.slice.injEq] at e
 rw [e.1]; exact h
theorem KpR.use (h : KpR w0 gn R1 ao L) (F : Fr w0 ((.slice (some ⟨gn, 0, none⟩) 65536 65536, 3, nCells NU) :: R1) V) : NAt V ao L := h V _ _ NU (Fr.front ((Fr.front (F.bare 3)).bare 3))
end
theorem PtP.one {l : List Nat} {key : Nat → Nat} {n : Nat} {e : Ending} {w : World} (h : PtP l key n e w) : ∃ (pa : Option Addr) (pn pc m : Nat), e = .returned (.tuple #[.slice pa pn pc, .int .i64 (m : Nat)]) ∧ ((pn = n ∧ m ≤ 256 ∧ ∃ PL NU, NAt w pa PL ∧ PL.length = n ∧ KnS l key l.length PL NU m) ∨ (m = 257 ∧ ∃ PL NU k, k ≤ l.length ∧ KnS l key k PL NU 257)) := by
 rcases h with ⟨pa, pc, PL, m, rfl, h1, h2, h3, NU, h4⟩ | ⟨pa, pn, pc, rfl, PL, NU, k, h1, h2⟩
 · exact ⟨pa, n, pc, m, rfl, .inl ⟨rfl, h3, PL, NU, h1, h2, h4⟩⟩
 · exact ⟨pa, pn, pc, 257, rfl, .inr ⟨rfl, PL, NU, k, h1, h2⟩⟩
def PsP (bs : By) (NX OU l : List Nat) (e : Ending) (w : World) : Prop :=
 (∃ (pa : Option Addr) (pc m : Nat), e = .returned (.tuple #[.slice pa OU.length pc, .int .i64 (m : Nat)]) ∧ m ≤ 256 ∧ ∃ PL, NAt w pa PL ∧ PL.length = OU.length ∧ DpS (dfA bs NX OU) l (gN PL) m ∧ ∀ s ∈ l, ∀ t ∈ l, (gN PL s = gN PL t ↔ (dfA bs NX OU).Eqv s t)) ∨
 (∃ (pa : Option Addr) (pn pc : Nat), e = .returned (.tuple #[.slice pa pn pc, .int .i64 257]) ∧ NoForm (dfA bs NX OU))
theorem prsD_any (bs : By) (na oa la ca : Option Addr) (nc oc lc cc W : Nat) (NX OU l C : List Nat) (w : World) (hM : MayA bs NX OU) (hW : NX.length / OU.length = W) (hWm : W = mxL (ntL bs) + 1) (hr : RdT (dfA bs NX OU) l) (hl0 : 0 < l.length) (hlz : gN l 0 = 0) (hll : l.length ≤ OU.length) (hC : ∀ c ∈ C, ∃ b, b < 256 ∧ (dfA bs NX OU).bc b = c) (hCb : ∀ b, b < 256 → (dfA bs NX OU).bc b ∈ C) (hCl : C.length ≤ 256) (hnx : NAt w na NX) (hou : NAt w oa OU) (hla : NAt w la l) (hca : NAt w ca C) :
 Calls Tryz.prog 38 #[auV bs na NX.length nc oa OU.length oc, .slice la l.length lc, .slice ca C.length cc] w fun e w' => PsP bs NX OU l e w' ∧ Below w.heap.size w w' := by
 obtain ⟨i3, hi3, hz30, hz31, hz32⟩ := info_parts Tryz.info3n
 have hn1 := hM.n1
 have hxl := hM.nxl
 obtain ⟨w2, hw2⟩ : ∃ w2, w2 = w.alloc (.cells #[.string ⟨bs.toArray⟩, .slice na NX.length nc, .slice oa OU.length oc] 24) := ⟨_, rfl⟩
 have X2 : Below w.heap.size w w2 := by rw [hw2]; exact al (Below.refl _ _) _
 have B2 : w2.heap[w.heap.size]? = some (.cells #[.string ⟨bs.toArray⟩, .slice na NX.length nc, .slice oa OU.length oc] 24 (0, 0)) := by rw [hw2]; exact heap_alloc_new w _
 have HC : Hid (∀ V, Below w2.heap.size w2 V → (V.cell? ⟨w.heap.size, 0, none⟩ = some (.string ⟨bs.toArray⟩) ∧ V.cell? ⟨w.heap.size, 1, none⟩ = some (.slice na NX.length nc) ∧ V.cell? ⟨w.heap.size, 2, none⟩ = some (.slice oa OU.length oc)) ∧ NAt V na NX ∧ NAt V oa OU ∧ NAt V la l ∧ NAt V ca C) := fun V x => by
  have Bv := (x.block _ (lt_of_block B2)).trans B2
  have y := bt X2 x (Nat.le_refl _)
  exact ⟨⟨by rw [cell_of_row _ _ _ _ _ _ Bv]; rfl, by rw [cell_of_row _ _ _ _ _ _ Bv]; rfl, by rw [cell_of_row _ _ _ _ _ _ Bv]; rfl⟩, hnx.below y, hou.below y, hla.below y, hca.below y⟩
 have HX2 := hide X2
 obtain ⟨⟨c0, c1, c2⟩, -⟩ := HC.out w2 (Below.refl _ _)
 have HWD := hide (wideD_any bs na oa NX.length nc OU.length oc w2 hM.bl)
 rw [← hWm] at HWD
 unfold auV at HWD
 have HM := hide hM
 have HR := hide hr
 have HCC := hide hC
 have HCB := hide hCb
 have HW := hide hW
 have HLZ := hide hlz
 have HLD : Hid (∀ V, Below w2.heap.size w2 V → Calls Tryz.prog 81 #[.agg #[.string ⟨bs.toArray⟩, .slice na NX.length nc, .slice oa OU.length oc], .slice la l.length lc] V fun e w' => (∃ (pa : Option Addr) (pn pc m : Nat), e = .returned (.tuple #[.slice pa pn pc, .int .i64 (m : Nat)]) ∧ ((pn = OU.length ∧ m ≤ 256 ∧ ∃ PL NU, NAt w' pa PL ∧ PL.length = OU.length ∧ KnS l (gN OU) l.length PL NU m) ∨ (m = 257 ∧ ∃ PL NU k, k ≤ l.length ∧ KnS l (gN OU) k PL NU 257))) ∧ Below V.heap.size V w') := fun V x => by
  obtain ⟨_, _, k2, k3, _⟩ := HC.out V x
  refine (labD_any bs na oa la NX.length nc oc lc OU l V hM.n0 hM.n1 hM.lb hr.n hll k2 k3).mono ?_
  rintro e w' ⟨hP, x'⟩
  exact ⟨hP.one, x'⟩
 have HUD : Hid (∀ V, Below w2.heap.size w2 V → Calls Tryz.prog 82 #[.agg #[.string ⟨bs.toArray⟩, .slice na NX.length nc, .slice oa OU.length oc], .slice la l.length lc, .slice ca C.length cc] V fun e w' => (∃ (ao : Option Addr) (cap : Nat) (U : List Nat), e = .returned (.slice ao U.length cap) ∧ OwnN w' V.heap.size (.slice ao U.length cap) U ∧ UnS (dfA bs NX OU) l C C.length U) ∧ Below V.heap.size V w') := fun V x => by
  obtain ⟨_, k1, _, k3, k4⟩ := HC.out V x
  exact unlD_any bs na oa la ca nc oc lc cc W NX OU l C V hM hW hWm (fun c hc => by obtain ⟨b, hb, e⟩ := hC c hc; rw [← e, ← hW]; exact hM.bw b hb) hCl hr.n hll k1 k3 k4
 clear X2 B2 hnx hou hla hca hM hr hC hCb hW hWm hlz
 unfold auV
 go_enter Tryz.func38, Tryz.ntmps38
 go_upto_region 1 with fail
 rw [← hw2]
 clear hw2
 go_upto_region 2 with (go_at_call 68; refine HWD.out.mono ?_; rintro e w3 ⟨rfl, x3⟩; have X3 := hide x3; clear x3)
 clear c0 c1 c2 HWD
 obtain ⟨⟨c0, c1, c2⟩, -⟩ := HC.out w3 X3.out
 go_upto_region 3 with (go_at_call 81; refine (HLD.out _ X3.out).mono ?_; rintro e w4 ⟨⟨pa, pn, pc, m, rfl, hp⟩, x4⟩; have X4 := hide (bt X3.out x4 (Nat.le_refl _)); have HP := hide hp; clear x4 hp)
 clear c0 c1 c2 HLD X3
 go_upto_region 4 with (at_make; refine wpList_make_full _ rfl (.const (.int .i64 65536)) (.const (.int .i64 65536)) 22 rfl w4.heap.size 3 i3 (.int .i64 0) 1 Tryz.underlying22 hi3 hz30 hz31 .i64 .i64 _ _ 65536 rfl rfl rfl rfl (by rw [hz32]; decide) (by unfold maxLen; decide) (Nat.le_refl _) ?_; intro w5 m1 m2; have F5 : Hid (Fr w4 [(.slice (some ⟨w4.heap.size, 0, none⟩) 65536 65536, 3, nCells (zer 65536))] w5) := (Fr.start w4).mkN m1 m2; clear m1 m2)
 obtain ⟨gn, hgn⟩ : ∃ gn, gn = w4.heap.size := ⟨_, rfl⟩
 rw [← hgn] at F5 ⊢
 clear hgn
 have X5 := hide (bt X4.out F5.out.bel (Nat.le_refl _))
 obtain ⟨⟨c0, c1, c2⟩, -⟩ := HC.out w5 X5.out
 go_upto_region 5 with (go_at_call 82; refine (HUD.out _ X5.out).mono ?_; rintro e w6 ⟨⟨ua, ucap, U, rfl, hU, hS⟩, x6⟩; have X56 := hide x6; have HU := hide hU; have HS := hide hS; clear x6 hU hS)
 clear c0 c1 c2 HUD
 have F6 : Hid (Fr w4 [(.slice (some ⟨gn, 0, none⟩) 65536 65536, 3, nCells (zer 65536)), (.slice ua U.length ucap, 3, nCells U)] w6) := by
  have hb : w4.heap.size ≤ w5.heap.size := F5.out.bel.size
  have ho : w6.ownsRow w5.heap.size 3 1 (.slice ua U.length ucap) U.length (nCells U) := HU.out
  exact F5.out.cons X56.out (by rw [nCells_length]; exact own_mono ho hb) (fun b hb' => (World.ownsRow.lt ho b hb').1)
 have hUl := HS.out.len
 have XW6 := hide (bt HX2.out (bt X5.out X56.out (Nat.le_refl _)) (Nat.le_refl _))
 clear F5 HU X5 X56
 rcases HP.out with ⟨rfl, hm, PL, NU0, hpl, hpn, hk⟩ | ⟨rfl, hbad⟩
 · have D0 : Hid (DpS (dfA bs NX OU) l (gN PL) m) := hk.parts hl0 HLZ.out
   have KP0 : Hid (KpR w4 gn [(.slice ua U.length ucap, 3, nCells U)] pa PL) := KpR.old hpl
   have KU0 : Hid (KpR w4 gn [(.slice ua U.length ucap, 3, nCells U)] ua U) := KpR.head
   clear hk hpl HP
   have HKY : Hid (∀ (QL PL : List Nat) (m1 m0 c : Nat), m1 ≤ 256 → m0 ≤ 256 → DpS (dfA bs NX OU) l (gN QL) m1 → DpS (dfA bs NX OU) l (gN PL) m0 → (∃ b, b < 256 ∧ (dfA bs NX OU).bc b = c) → ∀ i, i < l.length → gN l i < OU.length ∧ gN l i * W + c < NX.length ∧ gN NX (gN l i * W + c) < OU.length ∧ gN QL (gN l i) < 256 ∧ gN PL (gN NX (gN l i * W + c)) < 256) := fun QL PL m1 m0 c h1 h2 hQ hP hb i hi => by
    obtain ⟨b, hb, eb⟩ := hb
    have hs := HR.out.n _ (gN_mem hi)
    have hs : gN l i < OU.length := hs
    have hcw : c < W := by rw [← eb, ← HW.out]; exact HM.out.bw b hb
    have hix : gN l i * W + c < NX.length := by rw [HM.out.wl, HW.out]; exact at_lt hs hcw
    have e : (dfA bs NX OU).step (gN l i) b = gN NX (gN l i * W + c) := by
     show gN NX (gN l i * (NX.length / OU.length) + (dfA bs NX OU).bc b) = _
     rw [HW.out, eb]
    have h3 := hQ.lt _ (gN_mem hi)
    have h4 := hP.lt _ (HR.out.cl _ (gN_mem hi) b hb)
    rw [e] at h4
    refine ⟨hs, hix, ?_, by omega, by omega⟩
    rw [gN_lt hix]; exact HM.out.nl _ (List.getElem_mem hix)
   have HUB : Hid (∀ k, k < U.length → ∃ b, b < 256 ∧ (dfA bs NX OU).bc b = gN U k) := fun k hk => HCC.out _ (HS.out.mem _ (gN_mem hk))
   go_wp2
   go_loopg [9, 10] 258 (fun g x y wr => ∃ (pa : Option Addr) (pc m : Nat) (PL : List Nat) (R1 : List VR), x = .slice pa OU.length pc ∧ y = .int .i64 (m : Nat) ∧ m ≤ 256 ∧ PL.length = OU.length ∧ Hid (DpS (dfA bs NX OU) l (gN PL) m) ∧ Hid (Fr w4 ((.slice (some ⟨gn, 0, none⟩) 65536 65536, 3, nCells (zer 65536)) :: R1) wr) ∧ Hid (KpR w4 gn R1 pa PL) ∧ Hid (KpR w4 gn R1 ua U) ∧ 257 - m < g)
   case atStart => exact ⟨pa, pc, m, PL, _, rfl, rfl, hm, hpn, D0, F6, KP0, KU0, by omega⟩
   case round =>
    clear D0 F6 KP0 KU0 hm hpn
    obtain ⟨pa, pc, m, PL, R1, rfl, rfl, hm, hpn, D0, F, KP, KU, hg⟩ := hrel
    have HG := hide hg
    clear hg
    have hm' : (m : Int) ≤ 256 := by omega
    have SW0 : Hid (SwS (dfA bs NX OU) l (gN PL) U 0 (gN PL) m) := SwS.start D0.out
    go_wp2
    go_loopg [9, 10, 14] (U.length + 1) (fun g x y z wr => ∃ (k m1 : Nat) (qa : Option Addr) (qc : Nat) (QL : List Nat) (R2 : List VR), z = .int .i64 (k : Nat) ∧ x = .slice qa OU.length qc ∧ y = .int .i64 (m1 : Nat) ∧ k ≤ U.length ∧ m1 ≤ 256 ∧ QL.length = OU.length ∧ Hid (SwS (dfA bs NX OU) l (gN PL) U k (gN QL) m1) ∧ Hid (Fr w4 ((.slice (some ⟨gn, 0, none⟩) 65536 65536, 3, nCells (zer 65536)) :: R2) wr) ∧ Hid (KpR w4 gn R2 qa QL) ∧ Hid (KpR w4 gn R2 pa PL) ∧ Hid (KpR w4 gn R2 ua U) ∧ U.length - k < g)
    case atStart => exact ⟨0, m, pa, pc, PL, R1, rfl, rfl, rfl, by omega, hm, hpn, SW0, F, KP, KP, KU, by omega⟩
    case round =>
     clear F KP KU SW0 hm'
     obtain ⟨k, m1, qa, qc, QL, R2, rfl, rfl, rfl, hk1, hm1, hqn, SW, F, KQ, KP, KU, hg⟩ := hrel
     have HG2 := hide hg
     clear hg
     have X4F := hide (bt X4.out F.out.bel (Nat.le_refl _))
     by_cases hk : k < U.length
     · have hk' : (k : Int) < (U.length : Int) := by omega
       obtain ⟨⟨c0, c1, c2⟩, -⟩ := HC.out wr X4F.out
       obtain ⟨ub, uoff, rfl, -, -⟩ := (KU.out.use F.out).get hk
       have su := (KU.out.use F.out).atG hk
       have HPR : Hid (∀ V, Fr w4 ((.slice (some ⟨gn, 0, none⟩) 65536 65536, 3, nCells (zer 65536)) :: R2) V → Calls Tryz.prog 83 #[.agg #[.string ⟨bs.toArray⟩, .slice na NX.length nc, .slice oa OU.length oc], .slice la l.length lc, .slice qa OU.length qc, .slice pa OU.length pc, .slice (some ⟨gn, 0, none⟩) 65536 65536, .int .i64 (W : Nat), .int .i64 ((gN U k : Nat) : Int)] V fun e w' => ∃ og m : Nat, e = .returned (.tuple #[.slice (some ⟨og, 0, none⟩) OU.length OU.length, .int .i64 (m : Nat)]) ∧ ∃ TL : List Nat, Fr w4 ((.slice (some ⟨og, 0, none⟩) OU.length OU.length, 3, nCells TL) :: (.slice (some ⟨gn, 0, none⟩) 65536 65536, 3, nCells (zer 65536)) :: R2) w' ∧ TL.length = OU.length ∧ ∃ NU k2, k2 ≤ l.length ∧ KnS l (kyP QL PL NX W (gN U k)) k2 TL NU m ∧ ((m ≤ 256 ∧ k2 = l.length) ∨ m = 257)) := fun V FV => by
        have k1 := (HC.out w4 X4.out).2
        exact prtD_any bs na oa la qa pa nc OU.length oc lc qc pc W (gN U k) OU.length gn NX l QL PL R2 w4 V hxl hn1 hll hqn hpn (HKY.out QL PL m1 m _ hm1 hm SW.out.toDpS D0.out (HUB.out k hk)) FV (fun V x y NU F => ⟨k1.1.below F.bel, k1.2.2.1.below F.bel, KQ.out V x y NU F, KP.out V x y NU F⟩)
       have HSW : Hid (∀ TL NU m2, KnS l (kyP QL PL NX W (gN U k)) l.length TL NU m2 → SwS (dfA bs NX OU) l (gN PL) U (k + 1) (gN TL) m2) := fun TL NU m2 h => h.sweep HW.out hl0 HLZ.out HR.out D0.out hm SW.out (HUB.out k hk)
       have HNO : Hid (∀ TL NU k2, k2 ≤ l.length → KnS l (kyP QL PL NX W (gN U k)) k2 TL NU 257 → NoForm (dfA bs NX OU)) := fun TL NU k2 h1 h2 => h2.none h1 HR.out (key_eqv HW.out HR.out D0.out SW.out.toDpS (HUB.out k hk))
       generalize gN U k = c at *
       go_upto_region 11 with fail
       go_cut [15, 16] (fun x y wx => ∃ og m2 : Nat, x = .slice (some ⟨og, 0, none⟩) OU.length OU.length ∧ y = .int .i64 (m2 : Nat) ∧ Hid (∃ TL : List Nat, Fr w4 ((.slice (some ⟨og, 0, none⟩) OU.length OU.length, 3, nCells TL) :: (.slice (some ⟨gn, 0, none⟩) 65536 65536, 3, nCells (zer 65536)) :: R2) wx ∧ TL.length = OU.length ∧ ∃ NU k2, k2 ≤ l.length ∧ KnS l (kyP QL PL NX W c) k2 TL NU m2 ∧ ((m2 ≤ 256 ∧ k2 = l.length) ∨ m2 = 257)))
       case first =>
        go_region_with (go_at_call 83; refine (HPR.out _ (by first | exact F.out | exact F.out.below (Below.refl _ _).drew)).mono ?_; rintro e w7 ⟨og, m2, rfl, hT⟩; have HT := hide hT; clear hT)
        all_goals
         go_wp2
         go_meet
         exact ⟨og, m2, rfl, rfl, HT⟩
       case rest =>
        clear su c0 c1 c2 HPR F X4F
        obtain ⟨og, m2, rfl, rfl, HT⟩ := hcut
        obtain ⟨TL, ft, htl, NU, k2, hk2, hkn, hor⟩ := HT.out
        have FT := hide ft
        clear HT ft
        rcases hor with ⟨hm2, rfl⟩ | rfl
        · have hm2' : ¬ (256 : Int) < (m2 : Int) := by omega
          have SW2 := hide (HSW.out TL NU m2 hkn)
          have F2 := hide FT.out.swap
          have KQ2 : Hid (KpR w4 gn ((.slice (some ⟨og, 0, none⟩) OU.length OU.length, 3, nCells TL) :: R2) (some ⟨og, 0, none⟩) TL) := KpR.head
          have KP2 := hide (KP.out.more (.slice (some ⟨og, 0, none⟩) OU.length OU.length, 3, nCells TL))
          have KU2 := hide (KU.out.more (.slice (some ⟨og, 0, none⟩) OU.length OU.length, 3, nCells TL))
          clear hkn FT HSW HNO
          go_wp2
          go_roundg (U.length - (k + 1) + 1)
          case measure => have := HG2.out; omega
          case rel => exact ⟨k + 1, m2, _, _, TL, _, by first | rfl | go_num | (congr 1; omega), rfl, rfl, by omega, hm2, htl, SW2, F2, KQ2, KP2, KU2, by omega⟩
        · have HN := hide (HNO.out TL NU k2 hk2 hkn)
          have XF := hide (bt HX2.out (bt X4.out FT.out.bel (Nat.le_refl _)) (Nat.le_refl _))
          clear hkn HSW HNO FT
          go_wp2
          go_ret2
          exact ⟨.inr ⟨_, _, _, rfl, HN.out⟩, XF.out⟩
     · obtain rfl : k = U.length := by omega
       have hk' : ¬ (U.length : Int) < (U.length : Int) := by omega
       by_cases hmm : m1 = m
       · subst hmm
         have HFI : Hid (∀ s ∈ l, ∀ t ∈ l, (gN QL s = gN QL t ↔ (dfA bs NX OU).Eqv s t)) := SW.out.done HR.out D0.out (HS.out.done HCB.out)
         have HNA := hide (KQ.out.use F.out)
         have XF := hide (bt HX2.out X4F.out (Nat.le_refl _))
         go_wp2
         go_ret2
         exact ⟨.inl ⟨_, _, m1, rfl, hm1, QL, HNA.out, hqn, SW.out.toDpS, HFI.out⟩, XF.out⟩
       · have hmo := SW.out.more D0.out
         have hmm' : ((m1 : Int) == (m : Int)) = false := by simp; omega
         have hmm2 : ¬ (m1 : Int) = (m : Int) := by omega
         have D2 := hide SW.out.toDpS
         go_wp2
         go_roundg (257 - m1 + 1)
         case measure => have := HG.out; omega
         case rel => exact ⟨qa, qc, m1, QL, R2, rfl, rfl, hm1, hqn, D2, F, KQ, KU, by omega⟩
 · have HNO : Hid (NoForm (dfA bs NX OU)) := by
    obtain ⟨PL, NU, k, h1, h2⟩ := hbad
    exact h2.none h1 HR.out (fun s _ t _ e => ou_eqv e)
   clear hbad HP
   go_wp2
   go_loopg [9, 10] 1 (fun g x y wr => x = .slice pa pn pc ∧ y = .int .i64 257 ∧ wr = w6 ∧ 0 < g)
   case atStart => exact ⟨rfl, rfl, rfl, by omega⟩
   case round =>
    obtain ⟨rfl, rfl, rfl, hg⟩ := hrel
    go_wp2
    go_ret2
    exact ⟨.inr ⟨_, _, _, rfl, HNO.out⟩, XW6.out⟩
def RoAt (w : World) (ra : Option Addr) (R : List (List Nat)) : Prop := R = [] ∨ ∃ b off, ra = some ⟨b, off, none⟩ ∧ ∀ i (h : i < R.length), ∃ a cap, w.cell? ⟨b, off + i, none⟩ = some (.slice a (R[i]).length cap) ∧ NAt w a (R[i])
theorem RoAt.get {w : World} {ra : Option Addr} {R : List (List Nat)} (h : RoAt w ra R) {i : Nat} (hi : i < R.length) : ∃ b off a cap, ra = some ⟨b, off, none⟩ ∧ w.cell? ⟨b, off + i, none⟩ = some (.slice a (R[i]).length cap) ∧ NAt w a (R[i]) := by
 rcases h with rfl | ⟨b, off, e, h⟩
 · simp at hi
 · obtain ⟨a, cap, h1, h2⟩ := h i hi
   exact ⟨b, off, a, cap, e, h1, h2⟩
theorem row_same {A B : List Nat} (hl : A.length = B.length) (h : ∀ k, k < B.length → gN A k = gN B k) : A = B := by
 refine List.ext_getElem hl (fun i h1 h2 => ?_)
 rw [← gN_lt h1, ← gN_lt h2]; exact h i h2
theorem plcD_any (ra va : Option Addr) (rc vc : Nat) (R : List (List Nat)) (L : List Nat) (w : World) (hRl : R.length ≤ 256) (hll : L.length ≤ 256) (hm : ∀ i (h : i < R.length), (R[i]).length = L.length) (hR : ∀ n, RoAt (w.drewN n) ra R) (hL : ∀ n, NAt (w.drewN n) va L) :
 Calls Tryz.prog 84 #[.slice ra R.length rc, .slice va L.length vc] w fun e w' => (∃ p : Nat, e = .returned (.int .i64 (p : Nat)) ∧ p ≤ R.length ∧ (∀ j, j < p → R.getD j [] ≠ L) ∧ (p < R.length → R.getD p [] = L)) ∧ ∃ n, w' = w.drewN n := by
 have HR := hide hR
 have HL := hide hL
 have HM := hide hm
 clear hR hL hm
 go_enter Tryz.func84, Tryz.ntmps84
 go_wp2
 go_loopg [5] (R.length + 1) (fun g x wr => ∃ i : Nat, x = .int .i64 (i : Nat) ∧ i ≤ R.length ∧ Hid (∀ j, j < i → R.getD j [] ≠ L) ∧ Hid (∃ n, wr = w.drewN n) ∧ R.length - i < g)
 case atStart => exact ⟨0, rfl, by omega, fun j hj => by omega, ⟨0, rfl⟩, by omega⟩
 case round =>
  obtain ⟨i, rfl, hi1, HN, HD, hg⟩ := hrel
  have HG := hide hg
  clear hg
  by_cases hi : i < R.length
  · have hi' : (i : Int) < (R.length : Int) := by omega
    go_wp2
    go_loopg [6, 7] (L.length + 1) (fun g x y wr => ∃ (k : Nat) (b : Bool), y = .int .i64 (k : Nat) ∧ k ≤ L.length ∧ x = .bool b ∧ Hid (b = true → ∀ p, p < k → gN (R.getD i []) p = gN L p) ∧ Hid (b = false → R.getD i [] ≠ L) ∧ Hid (∃ n, wr = w.drewN n) ∧ L.length - k < g)
    case atStart => exact ⟨0, true, rfl, by omega, rfl, (fun _ p hp => by omega), (fun h => by cases h), HD, by omega⟩
    case round =>
     clear HD
     obtain ⟨k, b, rfl, hk1, rfl, HB, HF, HD, hg⟩ := hrel
     have HG2 := hide hg
     clear hg
     by_cases hk : k < L.length
     · have hk' : (k : Int) < (L.length : Int) := by omega
       cases b with
       | false =>
         have HN2 : Hid (∀ j, j < i + 1 → R.getD j [] ≠ L) := fun j hj => by
          rcases Nat.lt_or_ge j i with h | h
          · exact HN.out j h
          · rw [show j = i by omega]; exact HF.out rfl
         go_wp2
         go_roundg (R.length - (i + 1) + 1)
         case measure => have := HG.out; omega
         case rel => exact ⟨i + 1, by first | rfl | go_num | (congr 1; omega), by omega, HN2, HD, by omega⟩
       | true =>
         obtain ⟨n0, hn0⟩ := HD.out
         have kr := HR.out n0
         have kl := HL.out n0
         rw [← hn0] at kr kl
         obtain ⟨rb, roff, a, cap, rfl, sr, ka⟩ := kr.get hi
         have hml := HM.out i hi
         rw [hml] at sr
         have hki : k < (R[i]).length := by omega
         obtain ⟨ab, aoff, rfl, -, -⟩ := ka.get hki
         have sa := ka.atG hki
         obtain ⟨lb, loff, rfl, -, -⟩ := kl.get hk
         have sl := kl.atG hk
         have eR : R.getD i [] = R[i] := by simp [List.getD_eq_getElem?_getD, hi]
         have HEQ : Hid (gN R[i] k = gN L k → ∀ p, p < k + 1 → gN (R.getD i []) p = gN L p) := fun h p hp => by
          rcases Nat.lt_or_ge p k with h1 | h1
          · exact HB.out rfl p h1
          · rw [show p = k by omega, eR]; exact h
         have HNE : Hid (¬ gN R[i] k = gN L k → R.getD i [] ≠ L) := fun h e => by
          rw [eR] at e
          exact h (by rw [e])
         clear kr kl ka eR hml HB HF HD
         generalize gN R[i] k = x at *
         generalize gN L k = y at *
         have HDN : Hid (∀ nq, ∃ n, wr.drewN nq = w.drewN n) := fun nq => by
          rw [hn0]
          exact ⟨n0 + nq, by unfold World.drewN; simp only [Nat.add_assoc]⟩
         clear hn0
         by_cases hxy : x = y
         · subst hxy
           have HB2 := hide (HEQ.out rfl)
           clear HEQ HNE
           go_wp2
           go_quiet (fail)
           have HD2 : Hid (∃ n, wr.drewN nq = w.drewN n) := HDN.out nq
           go_wp2
           go_roundg (L.length - (k + 1) + 1)
           case measure => have := HG2.out; omega
           case rel => exact ⟨k + 1, true, by first | rfl | go_num | (congr 1; omega), by omega, by first | rfl | simp, (fun _ => HB2.out), (fun h => by cases h), HD2, by omega⟩
         · have HF2 := hide (HNE.out hxy)
           have hxy2 : ((x : Int) == (y : Int)) = false := by simp; omega
           have hxy3 : ¬ (x : Int) = (y : Int) := by omega
           clear HEQ HNE
           go_wp2
           go_quiet (fail)
           have HD2 : Hid (∃ n, wr.drewN nq = w.drewN n) := HDN.out nq
           go_wp2
           go_roundg (L.length - (k + 1) + 1)
           case measure => have := HG2.out; omega
           case rel => exact ⟨k + 1, false, by first | rfl | go_num | (congr 1; omega), by omega, by first | rfl | simp [hxy2], (fun h => by cases h), (fun _ => HF2.out), HD2, by omega⟩
     · obtain rfl : k = L.length := by omega
       have hk' : ¬ (L.length : Int) < (L.length : Int) := by omega
       cases b with
       | false =>
         have HN2 : Hid (∀ j, j < i + 1 → R.getD j [] ≠ L) := fun j hj => by
          rcases Nat.lt_or_ge j i with h | h
          · exact HN.out j h
          · rw [show j = i by omega]; exact HF.out rfl
         go_wp2
         go_roundg (R.length - (i + 1) + 1)
         case measure => have := HG.out; omega
         case rel => exact ⟨i + 1, by first | rfl | go_num | (congr 1; omega), by omega, HN2, HD, by omega⟩
       | true =>
         have HFD : Hid (R.getD i [] = L) := by
          have eR : R.getD i [] = R[i] := by simp [List.getD_eq_getElem?_getD, hi]
          exact row_same (by rw [eR]; exact HM.out i hi) (HB.out rfl)
         go_wp2
         go_ret
         exact ⟨⟨i, rfl, hi1, HN.out, fun _ => HFD.out⟩, HD.out⟩
  · obtain rfl : i = R.length := by omega
    have hi' : ¬ (R.length : Int) < (R.length : Int) := by omega
    go_wp2
    go_ret
    exact ⟨⟨R.length, rfl, Nat.le_refl _, HN.out, fun h => by omega⟩, HD.out⟩
end Go.Proofs.YtdgoilkgplnhfaaGreat
namespace Go.Proofs.YtdgoilkgplnhfaaGreat
structure OnS (l PL : List Nat) (m k : Nat) (ON : List Nat) : Prop where
 len : ON.length = m
 v : ∀ i, i < k → gN ON (gN PL (gN l i)) ∈ l ∧ gN PL (gN ON (gN PL (gN l i))) = gN PL (gN l i)
section
variable {l PL ON : List Nat} {m k : Nat}
theorem OnS.start : OnS l PL m 0 (List.replicate m 0) := ⟨List.length_replicate, fun i hi => by omega⟩
theorem OnS.next (h : OnS l PL m k ON) (hk : k < l.length) (hp : gN PL (gN l k) < m) : OnS l PL m (k + 1) (ON.set (gN PL (gN l k)) (gN l k)) := by
 have hl := h.len
 refine ⟨by rw [List.length_set]; exact hl, fun i hi => ?_⟩
 by_cases e : gN PL (gN l i) = gN PL (gN l k)
 · rw [gN_sT (by omega), if_pos e]
   exact ⟨gN_mem hk, e.symm⟩
 · rw [gN_sT (by omega), if_neg e]
   refine h.v i ?_
   rcases Nat.lt_or_ge i k with h1 | h1
   · exact h1
   · exact absurd (by rw [show i = k by omega]) e
theorem OnS.done (h : OnS l PL m l.length ON) (hit : ∀ r, r < m → ∃ s, s ∈ l ∧ gN PL s = r) : ∀ p, p < m → gN ON p ∈ l ∧ gN PL (gN ON p) = p := fun p hp => by
 obtain ⟨s, h1, h2⟩ := hit p hp
 obtain ⟨i, h3, h4⟩ := mem_gN h1
 have := h.v i h3
 rw [h4, h2] at this
 exact this
end
theorem NumF.congr {α : Type} {look : Nat → α} {N M : Nat} {num num' fst : Nat → Nat} (h : NumF look N num fst M) (e : ∀ i, i < N → num' i = num i) : NumF look N num' fst M :=
 ⟨fun i hi => by rw [e i hi]; exact h.numlt i hi, fun i hi => by rw [e i hi]; exact h.lk i hi, h.fstlt, fun k hk => by rw [e _ (h.fstlt k hk)]; exact h.numfst k hk, h.first, h.inc⟩
structure CoS (D : DF) (f one : Nat → Nat) (m b : Nat) (R : List (List Nat)) (OF CO F : List Nat) : Prop where
 nf : NumF (fun b => rowC D f one m (D.bc b)) b (gN CO) (gN F) R.length
 row : ∀ c, c < R.length → R.getD c [] = rowC D f one m (D.bc (gN F c))
 fl : F.length = R.length
 of : ∀ b', b' < b → gN OF (D.bc b') = gN CO b' + 1
 on : ∀ c, gN OF c ≠ 0 → ∃ b', b' < b ∧ D.bc b' = c
 ol : OF.length = 256
 cl : CO.length = 256
section
variable {D : DF} {f one : Nat → Nat} {m b : Nat} {R : List (List Nat)} {OF CO F : List Nat}
theorem CoS.start : CoS D f one m 0 [] (zer 256) (zer 256) [] :=
 ⟨⟨fun i h => by omega, fun i h => by omega, fun i h => (by cases h), fun i h => (by cases h), fun i h => (by cases h), fun i l _ h => (by cases h)⟩, fun c hc => (by cases hc), rfl, fun b' h => by omega, fun c hc => absurd (zer_get _ _) hc, zer_len _, zer_len _⟩
theorem CoS.few (h : CoS D f one m b R OF CO F) : R.length ≤ b := pigeon b R.length (gN F) h.nf.fstlt (fun i a j c e => by rw [← h.nf.numfst i a, ← h.nf.numfst j c, e])
theorem take_gN {L : List Nat} {b i : Nat} (hi : i < b) : gN (L.take b) i = gN L i := by
 unfold gN
 simp [List.getD_eq_getElem?_getD, hi]
theorem CoS.take (h : CoS D f one m b R OF CO F) (hb : b < 256) : NumF (fun b => rowC D f one m (D.bc b)) (CO.take b).length (gN (CO.take b)) (gN F) F.length ∧ (CO.take b).length = b := by
 have hl : (CO.take b).length = b := by rw [List.length_take, h.cl]; omega
 refine ⟨?_, hl⟩
 rw [hl, h.fl]
 exact h.nf.congr (fun i hi => take_gN hi)
theorem CoS.put (h : CoS D f one m b R OF CO F) (hb : b < 256) {x i : Nat} (hi : i < b + 1) : gN (CO.set b x) i = gN (CO.take b ++ [x]) i := by
 have hl : (CO.take b).length = b := by rw [List.length_take, h.cl]; omega
 rw [gN_sT (by rw [h.cl]; exact hb)]
 by_cases e : i = b
 · subst e
   rw [if_pos rfl]
   have := gN_last (CO.take i) x
   rw [hl] at this
   exact this.symm
 · rw [if_neg e, gN_left (by omega), take_gN (by omega)]
theorem CoS.hit (h : CoS D f one m b R OF CO F) (hb : b < 256) {p : Nat} (hp : p < R.length) (he : rowC D f one m (D.bc (gN F p)) = rowC D f one m (D.bc b)) {OF' : List Nat} (ol : OF'.length = 256) (ov : ∀ c, gN OF' c = if c = D.bc b then p + 1 else gN OF c) (hold : ∀ b', b' < b → D.bc b' = D.bc b → gN CO b' = p) : CoS D f one m (b + 1) R OF' (CO.set b p) F := by
 obtain ⟨h1, hl⟩ := h.take hb
 have h2 := h1.hit (n := p) (by rw [h.fl]; exact hp) (by rw [hl]; exact he)
 rw [hl, h.fl] at h2
 refine ⟨h2.congr (fun i hi => h.put hb hi), h.row, h.fl, fun b' hb' => ?_, fun c hc' => ?_, ol, by rw [List.length_set]; exact h.cl⟩
 · rw [ov, gN_sT (by rw [h.cl]; exact hb)]
   by_cases e : b' = b
   · rw [if_pos e, e, if_pos rfl]
   · rw [if_neg e]
     by_cases e2 : D.bc b' = D.bc b
     · rw [if_pos e2, hold b' (by omega) e2]
     · rw [if_neg e2]; exact h.of b' (by omega)
 · rw [ov] at hc'
   by_cases e : c = D.bc b
   · exact ⟨b, by omega, e.symm⟩
   · rw [if_neg e] at hc'
     obtain ⟨b', h3, h4⟩ := h.on c hc'
     exact ⟨b', by omega, h4⟩
theorem CoS.old (h : CoS D f one m b R OF CO F) (hb : b < 256) (ho : gN OF (D.bc b) ≠ 0) : gN OF (D.bc b) ≤ R.length ∧ CoS D f one m (b + 1) R OF (CO.set b (gN OF (D.bc b) - 1)) F := by
 obtain ⟨b', h1, h2⟩ := h.on _ ho
 have h3 := h.of b' h1
 rw [h2] at h3
 have h4 := h.nf.numlt b' h1
 refine ⟨by omega, h.hit hb (p := gN OF (D.bc b) - 1) (by omega) ?_ h.ol (fun c => ?_) (fun b2 h5 h6 => ?_)⟩
 · have e : gN OF (D.bc b) - 1 = gN CO b' := by omega
   rw [e]
   have h7 : rowC D f one m (D.bc (gN F (gN CO b'))) = rowC D f one m (D.bc b') := h.nf.lk b' h1
   rw [h7, h2]
 · by_cases e : c = D.bc b
   · rw [if_pos e, e]; omega
   · rw [if_neg e]
 · have := h.of b2 h5
   rw [h6] at this
   omega
theorem CoS.same (h : CoS D f one m b R OF CO F) (hb : b < 256) (hc : D.bc b < 256) (ho : gN OF (D.bc b) = 0) {p : Nat} (hp : p < R.length) (he : R.getD p [] = rowC D f one m (D.bc b)) : CoS D f one m (b + 1) R (OF.set (D.bc b) (p + 1)) (CO.set b p) F := by
 refine h.hit hb hp (by rw [← h.row p hp]; exact he) (by rw [List.length_set]; exact h.ol) (fun c => gN_sT (by rw [h.ol]; exact hc)) (fun b' h1 h2 => ?_)
 have := h.of b' h1
 rw [h2, ho] at this
 omega
theorem CoS.new (h : CoS D f one m b R OF CO F) (hb : b < 256) (hc : D.bc b < 256) (ho : gN OF (D.bc b) = 0) (hne : ∀ j, j < R.length → R.getD j [] ≠ rowC D f one m (D.bc b)) : CoS D f one m (b + 1) (R ++ [rowC D f one m (D.bc b)]) (OF.set (D.bc b) (R.length + 1)) (CO.set b R.length) (F ++ [b]) := by
 obtain ⟨h1, hl⟩ := h.take hb
 have h2 := h1.miss (fun k hk e => hne k (by rw [← h.fl]; exact hk) (by rw [h.row k (by rw [← h.fl]; exact hk), ← hl]; exact e))
 rw [hl, h.fl] at h2
 have hlR : (R ++ [rowC D f one m (D.bc b)]).length = R.length + 1 := by simp
 refine ⟨by rw [hlR]; exact h2.congr (fun i hi => h.put hb hi), fun c hc' => ?_, by simp [h.fl], fun b' hb' => ?_, fun c hc' => ?_, by rw [List.length_set]; exact h.ol, by rw [List.length_set]; exact h.cl⟩
 · rw [hlR] at hc'
   by_cases e : c < R.length
   · have e1 : (R ++ [rowC D f one m (D.bc b)]).getD c [] = R.getD c [] := by simp [List.getD_eq_getElem?_getD, List.getElem?_append, e]
     rw [e1, gN_left (by rw [h.fl]; exact e)]
     exact h.row c e
   · have e2 : c = R.length := by omega
     subst e2
     have e1 : (R ++ [rowC D f one m (D.bc b)]).getD R.length [] = rowC D f one m (D.bc b) := by simp [List.getD_eq_getElem?_getD]
     have e3 := gN_last F b
     rw [h.fl] at e3
     rw [e1, e3]
 · rw [gN_sT (by rw [h.ol]; exact hc), gN_sT (by rw [h.cl]; exact hb)]
   by_cases e : b' = b
   · rw [if_pos e, e, if_pos rfl]
   · rw [if_neg e]
     have h3 := h.of b' (by omega)
     by_cases e2 : D.bc b' = D.bc b
     · rw [e2, ho] at h3; omega
     · rw [if_neg e2]; exact h3
 · rw [gN_sT (by rw [h.ol]; exact hc)] at hc'
   by_cases e : c = D.bc b
   · exact ⟨b, by omega, e.symm⟩
   · rw [if_neg e] at hc'
     obtain ⟨b', h3, h4⟩ := h.on c hc'
     exact ⟨b', by omega, h4⟩
end
structure NoS (St NM : List Nat) (m : Nat) : Prop where
 len : NM.length = m
 v : ∀ p, gN NM p ≠ 0 → gN NM p ≤ St.length ∧ gN St (gN NM p - 1) = p
 w : ∀ a, a < St.length → gN NM (gN St a) ≠ 0
theorem NoS.start {m : Nat} (hm : 0 < m) : NoS [0] ((List.replicate m 0).set 0 1) m := by
 refine ⟨by simp, fun p hp => ?_, fun a ha => ?_⟩
 · rw [gN_sT (by simp; exact hm)] at hp ⊢
   by_cases e : p = 0
   · rw [if_pos e]; exact ⟨by simp, by rw [e]; rfl⟩
   · rw [if_neg e, gN_zero] at hp; exact absurd rfl hp
 · have : a = 0 := by simp at ha; omega
   subst this
   rw [show gN [0] 0 = 0 from rfl, gN_sT (by simp; exact hm), if_pos rfl]
   decide
theorem NoS.new {St NM : List Nat} {m p : Nat} (h : NoS St NM m) (hp : p < m) : NoS (St ++ [p]) (NM.set p (St.length + 1)) m := by
 have hl := h.len
 refine ⟨by rw [List.length_set]; exact hl, fun q hq => ?_, fun a ha => ?_⟩
 · rw [gN_sT (by omega)] at hq ⊢
   by_cases e : q = p
   · rw [if_pos e]
     exact ⟨by simp, by rw [show St.length + 1 - 1 = St.length by omega, gN_last]; exact e.symm⟩
   · rw [if_neg e] at hq ⊢
     obtain ⟨h1, h2⟩ := h.v q hq
     exact ⟨by simp; omega, by rw [gN_left (by omega)]; exact h2⟩
 · rw [gN_sT (by omega)]
   by_cases e : a < St.length
   · rw [gN_left e]
     by_cases e2 : gN St a = p
     · rw [if_pos e2]; omega
     · rw [if_neg e2]; exact h.w a e
   · have e3 : a = St.length := by simp at ha; omega
     rw [e3, gN_last, if_pos rfl]; omega
theorem numD_done {bs : By} {NX OU l PL ON CO F St X O : List Nat} {m : Nat} {R : List (List Nat)} (hM : MayA bs NX OU) (hm : m ≤ 256) (h : QuS (dfA bs NX OU) l (gN PL) (gN ON) m R (gN CO) (gN F)) (hf : F.length = R.length) (hR : R.length ≤ 256) (cl : CO.length = 256) (rc : RcS (quD (dfA bs NX OU) (gN ON) m R (gN CO)) F St X St.length 0) (hO : O = St.map fun p => gN OU (gN ON p)) :
 (dfA (btOf CO) X O).Right ∧ (∀ t, Txt t → (dfA (btOf CO) X O).lab 0 t = (dfA bs NX OU).lab 0 t) ∧ MayA (btOf CO) X O ∧ O.length ≤ 256 := by
 obtain ⟨h1, h2⟩ := h.done hf rc
 have hOl : O.length = St.length := by rw [hO, List.length_map]
 have hlen : X.length = St.length * F.length := by have := rc.len; omega
 have hs0 := rc.s0.1
 have hWd : X.length / O.length = F.length := by rw [hlen, hOl]; exact Nat.mul_div_cancel_left _ hs0
 have hSt : St.length ≤ m := pigeon m St.length (gN St) rc.lt rc.nd
 have hou : ∀ s, s < St.length → gN O s = gN OU (gN ON (gN St s)) := fun s hs => by
  rw [hO]
  exact gN_map St (fun p => gN OU (gN ON p)) hs
 have hcb : ∀ b, b < 256 → gN CO b < R.length := fun b hb => h.nf.numlt b hb
 have hbt : ∀ b, b < 256 → ((btOf CO).getD b 0).toNat = gN CO b := fun b hb => btOf_get CO (by omega) (by have := hcb b hb; omega)
 have agr : Agr (rcD (quD (dfA bs NX OU) (gN ON) m R (gN CO)) CO F St X) (dfA (btOf CO) X O) := by
  refine ⟨hOl, hWd, fun b hb => hbt b hb, fun s hs c hc => ?_, fun s hs => ?_⟩
  · show gN X (s * (X.length / O.length) + c) = gN X (s * F.length + c)
    rw [hWd]
  · have hs' : s < St.length := hs
    show ((gN O s : Nat) : Int) = ((gN OU (gN ON (gN St s)) : Nat) : Int)
    rw [hou s hs']
 refine ⟨agr.right h1, fun t ht => by rw [agr.lab h1.toOk h1.toOk.n0 ht]; exact h2 t ht, ⟨?_, by omega, by omega, by rw [hWd, hOl]; exact hlen, fun b hb => ?_, by rw [hWd]; omega, fun x hx => ?_, fun x hx => ?_⟩, by omega⟩
 · unfold btOf; rw [List.length_map]; exact cl
 · rw [hWd, hbt b hb, hf]; exact hcb b hb
 · obtain ⟨q, h3, h4⟩ := mem_gN hx
   rw [← h4, hOl]
   exact (rc.nxt q h3).1
 · rw [hO] at hx
   obtain ⟨p, h3, rfl⟩ := List.mem_map.1 hx
   obtain ⟨a, h4, h5⟩ := mem_gN h3
   have hp := rc.lt a h4
   rw [h5] at hp
   have hs := h.rd.n _ (h.on p hp).1
   have hs : gN ON p < OU.length := hs
   rw [gN_lt hs]
   exact hM.lb _ (List.getElem_mem hs)
end Go.Proofs.YtdgoilkgplnhfaaGreat
