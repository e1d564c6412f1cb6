/-
  The document's Right of any test by its contract. Condition: texts and lists no longer than a process can hold.
-/
import Derived.Test.YthgikaklcglpiaaGreatDoorP31
import Derived.Test.YthgikaklcglpiaaGreatDoorP32
import Derived.Test.YthgikaklcglpiaaGreatDoorP25
import Derived.Test.YthgikaklcglpiaaGreatDoorP34
namespace Go.Proofs.YthgikaklcglpiaaGreatDoor.L5
open Go.RowKit Go.Lib

theorem pcs_nil (D : List PD) : pcsEq D [] = true ↔ D = [] := by
  unfold pcsEq
  rw [decide_eq_true_iff]
  simp
theorem pcs_self (D : List PD) : pcsEq D D = true := by
  unfold pcsEq
  simp
theorem onl_sp (a : AD) : onl a a.spO = true ↔ a.nm = [] ∧ a.ns = [] ∧ a.D = [] := by
  unfold onl sameA AD.spO
  simp [pcs_nil]
theorem onl_ns (a : AD) : onl a a.nsO = true ↔ a.nm = [] ∧ a.sp = [] ∧ a.D = [] := by
  unfold onl sameA AD.nsO
  simp [pcs_nil]
theorem onl_pc (a : AD) : onl a a.pcO = true ↔ a.nm = [] ∧ a.sp = [] ∧ a.ns = [] := by
  unfold onl sameA AD.pcO
  simp [pcs_self]
theorem onl_np (a : AD) : onl a a.npO = true ↔ a.sp = [] ∧ a.ns = [] := by
  unfold onl sameA AD.npO
  simp [pcs_self]
theorem onl_nm (a : AD) : onl a a.nmO = true ↔ a.sp = [] ∧ a.ns = [] ∧ a.D = [] := by
  unfold onl sameA AD.nmO
  simp [pcs_nil]
theorem isSet_top {L : List Spn} (h : IsSet L) (h0 : 0 < L.length) : (L.getD (L.length - 1) (0, 0)).2 ≤ 4294967295 := by
  rw [List.getD_eq_getElem?_getD, List.getElem?_eq_getElem (show L.length - 1 < L.length by omega)]
  exact (h.1 _ (List.getElem_mem _)).2.2
theorem RgA_of {a : AD} {k : Nat} (hk : a.k = (k : Int)) (h7 : 7 ≤ k) (h12 : k ≤ 12) : RgA a ↔ rgP a k := by
  unfold RgA
  rw [hk]
  exact ⟨fun h => h.2.2, fun h => ⟨by omega, by omega, h⟩⟩
theorem rg7 {a : AD} (hk : a.k = 7) : RgA a ↔ (a.D = [] ∧ a.nm = [] ∧ a.ns = []) ∧ IsSet a.sp ∧ 0 < a.sp.length := by
  rw [RgA_of (k := 7) hk (by decide) (by decide)]
  show onl a a.spO = true ∧ Hst a.sp 4294967295 ↔ _
  rw [onl_sp]
  exact ⟨fun h => ⟨⟨h.1.2.2, h.1.1, h.1.2.1⟩, h.2.1, h.2.2.1⟩, fun h => ⟨⟨h.1.2.1, h.1.2.2, h.1.1⟩, h.2.1, h.2.2, isSet_top h.2.1 h.2.2⟩⟩
theorem rg8 {a : AD} (hk : a.k = 8) : RgA a ↔ (a.D = [] ∧ a.nm = [] ∧ a.ns = []) ∧ Hst a.sp 65535 := by
  rw [RgA_of (k := 8) hk (by decide) (by decide)]
  show onl a a.spO = true ∧ Hst a.sp 65535 ↔ _
  rw [onl_sp]
  exact ⟨fun h => ⟨⟨h.1.2.2, h.1.1, h.1.2.1⟩, h.2⟩, fun h => ⟨⟨h.1.2.1, h.1.2.2, h.1.1⟩, h.2⟩⟩
theorem rg9 {a : AD} (hk : a.k = 9) : RgA a ↔ (a.sp = [] ∧ a.D = [] ∧ a.nm = []) ∧ AM a.ns := by
  rw [RgA_of (k := 9) hk (by decide) (by decide)]
  show onl a a.nsO = true ∧ AM a.ns ↔ _
  rw [onl_ns]
  exact ⟨fun h => ⟨⟨h.1.2.1, h.1.2.2, h.1.1⟩, h.2⟩, fun h => ⟨⟨h.1.2.2, h.1.1, h.1.2.1⟩, h.2⟩⟩
theorem rg10 {a : AD} (hk : a.k = 10) : RgA a ↔ (a.sp = [] ∧ a.nm = [] ∧ a.ns = []) ∧ Rt (a.D.map PD.p) := by
  rw [RgA_of (k := 10) hk (by decide) (by decide)]
  show onl a a.pcO = true ∧ Rt (a.D.map PD.p) ↔ _
  rw [onl_pc]
  exact ⟨fun h => ⟨⟨h.1.2.1, h.1.1, h.1.2.2⟩, h.2⟩, fun h => ⟨⟨h.1.2.1, h.1.1, h.1.2.2⟩, h.2⟩⟩
theorem rg11 {a : AD} (hk : a.k = 11) : RgA a ↔ (a.sp = [] ∧ a.ns = []) ∧ HN a.nm ∧ Rt (a.D.map PD.p) := by
  rw [RgA_of (k := 11) hk (by decide) (by decide)]
  show onl a a.npO = true ∧ HN a.nm ∧ Rt (a.D.map PD.p) ↔ _
  rw [onl_np]
theorem rg12 {a : AD} (hk : a.k = 12) : RgA a ↔ (a.sp = [] ∧ a.D = [] ∧ a.ns = []) ∧ HN a.nm := by
  rw [RgA_of (k := 12) hk (by decide) (by decide)]
  show onl a a.nmO = true ∧ HN a.nm ↔ _
  rw [onl_nm]
  exact ⟨fun h => ⟨⟨h.1.1, h.1.2.2, h.1.2.1⟩, h.2⟩, fun h => ⟨⟨h.1.1, h.1.2.2, h.1.2.1⟩, h.2⟩⟩
theorem len_pos {α : Type} {l : List α} (h : ¬ l = []) : (0 : Int) < (l.length : Int) := by
  cases l with
  | nil => exact absurd rfl h
  | cons x l => simp only [List.length_cons]; omega
/-- A text that is not empty, as a walk reads it. -/
theorem txt_ne {s : By} (h : ¬ s = []) : (⟨s.toArray⟩ : ByteArray).toList.isEmpty = false ∧ s.isEmpty = false ∧ (s == []) = false ∧ (s != []) = true := by
  cases s with
  | nil => exact absurd rfl h
  | cons b t => exact ⟨by rw [ByteArray.toList_eq]; rfl, rfl, rfl, rfl⟩
set_option maxRecDepth 100000 in
set_option maxHeartbeats 4000000 in
theorem rightD_7 (a : AD) (w : World) (ha : AtW w a) (hk : a.k = 7) : Calls Tryz.prog 22 #[.agg a.cells] w fun e w' => YesNo (RgA a) e ∧ Below w.heap.size w w' := by
  have XW := hide (show Below w.heap.size w (w.alloc (.cells a.cells 35)) from al (Below.refl _ _) _)
  have B1 := hide (heap_alloc_new w (.cells a.cells 35))
  have HA := hide ha
  have HX1 := hide (Bx5.of (x0 := .int .i64 a.k) (x1 := .string ⟨a.nm.toArray⟩) (x2 := .slice a.so a.sp.length a.sc) (x3 := .slice a.no a.ns.length a.nc) (x4 := .slice a.po a.D.length a.pc) B1.out)
  have HR := hide (rg7 hk)
  have hca : a.cells = #[.int .i64 a.k, .string ⟨a.nm.toArray⟩, .slice a.so a.sp.length a.sc, .slice a.no a.ns.length a.nc, .slice a.po a.D.length a.pc] := rfl
  rw [hca] at XW HX1 ⊢
  rw [hk] at XW HX1 ⊢
  clear ha B1 hca hk
  by_cases hD : a.D = []
  · have HED := hide hD
    have hD0 : a.D.length = 0 := by rw [hD]; rfl
    rw [hD0] at XW HX1 ⊢
    clear hD0
    clear hD
    by_cases hnm : a.nm = []
    · have HEnm := hide hnm
      rw [hnm] at XW HX1 ⊢
      clear hnm
      by_cases hns : a.ns = []
      · have HEns := hide hns
        have hns0 : a.ns.length = 0 := by rw [hns]; rfl
        rw [hns0] at XW HX1 ⊢
        clear hns0
        clear hns
        obtain ⟨P, hP⟩ : ∃ P, P = w.heap.size := ⟨_, rfl⟩
        go_enter Tryz.func22, Tryz.ntmps22
        go_upto_region 1 with fail
        rw [← hP]
        rw [← hP] at HX1
        clear hP
        generalize w.alloc (.cells #[.int .i64 7, .string ⟨([] : By).toArray⟩, .slice a.so a.sp.length a.sc, .slice a.no 0 a.nc, .slice a.po 0 a.pc] 35) = W at *
        obtain ⟨p0, p1, p2, p3, p4⟩ := HX1.out W (Below.refl _ _)
        have HC := hide (refRight_any a.so a.sc a.sp W HA.out.lsp (HA.out.sp.below XW.out))
        have HI : Hid (RgA a ↔ IsSet a.sp ∧ 0 < a.sp.length) := HR.out.trans ⟨fun h => h.2, fun h => ⟨⟨HED.out, HEnm.out, HEns.out⟩, h⟩⟩
        go_upto_region 10 with (go_at_call 47; refine HC.out.mono ?_; rintro e w1 ⟨rfl, x1⟩; have Y1 := hide x1; have X1 := hide (bt XW.out x1 (Nat.le_refl _)); clear x1)
        clear p0 p1 p2 p3 p4 HC
        obtain ⟨p0, p1, p2, p3, p4⟩ := HX1.out w1 Y1.out
        by_cases hs : IsSet a.sp
        · have hsd : decide (IsSet a.sp) = true := decide_eq_true hs
          have HS := hide hs
          clear hs
          by_cases h0 : 0 < a.sp.length
          · have h0' : (0 : Int) < (a.sp.length : Int) := by omega
            have HT : Hid (RgA a) := HI.out.2 ⟨HS.out, h0⟩
            clear h0
            go_wp2
            go_ret
            exact ⟨.inl ⟨HT.out, rfl⟩, X1.out⟩
          · have h0' : ¬ (0 : Int) < (a.sp.length : Int) := by omega
            have HF : Hid (¬ RgA a) := fun g => h0 (HI.out.1 g).2
            clear h0
            go_wp2
            go_ret
            exact ⟨.inr ⟨HF.out, rfl⟩, X1.out⟩
        · have hsd : decide (IsSet a.sp) = false := decide_eq_false hs
          have HF : Hid (¬ RgA a) := fun g => hs (HI.out.1 g).1
          clear hs
          go_wp2
          go_ret
          exact ⟨.inr ⟨HF.out, rfl⟩, X1.out⟩
      · have HN : Hid (¬ RgA a) := fun g => hns (by have h := HR.out.1 g; exact h.1.2.2)
        have l1 := len_pos hns
        have l2 : 0 < a.ns.length := by omega
        have l3 : ¬ a.ns = [] := hns
        clear hns
        go_enter Tryz.func22, Tryz.ntmps22
        go_wp2
        go_ret
        exact ⟨.inr ⟨HN.out, rfl⟩, XW.out⟩
    · have HN : Hid (¬ RgA a) := fun g => hnm (by have h := HR.out.1 g; exact h.1.2.1)
      obtain ⟨n1, n2, n3, n4⟩ := txt_ne hnm
      clear hnm
      go_enter Tryz.func22, Tryz.ntmps22
      go_wp2
      go_ret
      exact ⟨.inr ⟨HN.out, rfl⟩, XW.out⟩
  · have HN : Hid (¬ RgA a) := fun g => hD (by have h := HR.out.1 g; exact h.1.1)
    have l1 := len_pos hD
    have l2 : 0 < a.D.length := by omega
    have l3 : ¬ a.D = [] := hD
    clear hD
    go_enter Tryz.func22, Tryz.ntmps22
    go_wp2
    go_ret
    exact ⟨.inr ⟨HN.out, rfl⟩, XW.out⟩
set_option maxRecDepth 100000 in
set_option maxHeartbeats 4000000 in
theorem rightD_8 (a : AD) (w : World) (ha : AtW w a) (hk : a.k = 8) : Calls Tryz.prog 22 #[.agg a.cells] w fun e w' => YesNo (RgA a) e ∧ Below w.heap.size w w' := by
  have XW := hide (show Below w.heap.size w (w.alloc (.cells a.cells 35)) from al (Below.refl _ _) _)
  have B1 := hide (heap_alloc_new w (.cells a.cells 35))
  have HA := hide ha
  have HX1 := hide (Bx5.of (x0 := .int .i64 a.k) (x1 := .string ⟨a.nm.toArray⟩) (x2 := .slice a.so a.sp.length a.sc) (x3 := .slice a.no a.ns.length a.nc) (x4 := .slice a.po a.D.length a.pc) B1.out)
  have HR := hide (rg8 hk)
  have hca : a.cells = #[.int .i64 a.k, .string ⟨a.nm.toArray⟩, .slice a.so a.sp.length a.sc, .slice a.no a.ns.length a.nc, .slice a.po a.D.length a.pc] := rfl
  rw [hca] at XW HX1 ⊢
  rw [hk] at XW HX1 ⊢
  clear ha B1 hca hk
  by_cases hD : a.D = []
  · have HED := hide hD
    have hD0 : a.D.length = 0 := by rw [hD]; rfl
    rw [hD0] at XW HX1 ⊢
    clear hD0
    clear hD
    by_cases hnm : a.nm = []
    · have HEnm := hide hnm
      rw [hnm] at XW HX1 ⊢
      clear hnm
      by_cases hns : a.ns = []
      · have HEns := hide hns
        have hns0 : a.ns.length = 0 := by rw [hns]; rfl
        rw [hns0] at XW HX1 ⊢
        clear hns0
        clear hns
        obtain ⟨P, hP⟩ : ∃ P, P = w.heap.size := ⟨_, rfl⟩
        go_enter Tryz.func22, Tryz.ntmps22
        go_upto_region 1 with fail
        rw [← hP]
        rw [← hP] at HX1
        clear hP
        generalize w.alloc (.cells #[.int .i64 8, .string ⟨([] : By).toArray⟩, .slice a.so a.sp.length a.sc, .slice a.no 0 a.nc, .slice a.po 0 a.pc] 35) = W at *
        obtain ⟨p0, p1, p2, p3, p4⟩ := HX1.out W (Below.refl _ _)
        have HC := hide (refRight_any a.so a.sc a.sp W HA.out.lsp (HA.out.sp.below XW.out))
        have HI : Hid (RgA a ↔ IsSet a.sp ∧ 0 < a.sp.length ∧ (a.sp.getD (a.sp.length - 1) (0, 0)).2 ≤ 65535) := HR.out.trans ⟨fun h => h.2, fun h => ⟨⟨HED.out, HEnm.out, HEns.out⟩, h⟩⟩
        go_upto_region 10 with (go_at_call 47; refine HC.out.mono ?_; rintro e w1 ⟨rfl, x1⟩; have Y1 := hide x1; have X1 := hide (bt XW.out x1 (Nat.le_refl _)); clear x1)
        clear p0 p1 p2 p3 p4 HC
        obtain ⟨p0, p1, p2, p3, p4⟩ := HX1.out w1 Y1.out
        by_cases hs : IsSet a.sp
        · have hsd : decide (IsSet a.sp) = true := decide_eq_true hs
          have HS := hide hs
          clear hs
          by_cases h0 : 0 < a.sp.length
          · have h0' : (0 : Int) < (a.sp.length : Int) := by omega
            obtain ⟨j, hj⟩ : ∃ j, j + 1 = a.sp.length := ⟨a.sp.length - 1, by omega⟩
            obtain ⟨pa, oa, eA, _, ca⟩ := (HA.out.sp.below X1.out).get h0
            have cj := (ca j (by omega)).2
            rw [eA] at p2
            have hw1 : (a.sp.length : Int) - 1 = (j : Int) := by omega
            have hjl : (j : Int) < (a.sp.length : Int) := by omega
            have hwj : wrap64 (j : Int) = (j : Int) := by have := HA.out.lsp; unfold wrap64; omega
            have hjn : ((j : Int)).toNat = j := by simp
            have HI2 : Hid (RgA a ↔ (a.sp.getD j (0, 0)).2 ≤ 65535) := by
              have h := HI.out
              rw [show a.sp.length - 1 = j by omega] at h
              exact h.trans ⟨fun h => h.2.2, fun h => ⟨HS.out, h0, h⟩⟩
            clear ca h0 hj eA
            generalize (a.sp.getD j (0, 0)).2 = z at *
            by_cases hz : z ≤ 65535
            · have HT : Hid (RgA a) := HI2.out.2 hz
              go_wp2
              go_ret
              exact ⟨.inl ⟨HT.out, rfl⟩, X1.out⟩
            · have HF : Hid (¬ RgA a) := fun g => hz (HI2.out.1 g)
              have hzd : decide (z ≤ 65535) = false := decide_eq_false hz
              go_wp2
              go_ret
              exact ⟨.inr ⟨HF.out, by first | rfl | (show Ending.returned (.bool (decide (z ≤ 65535))) = _; rw [hzd])⟩, X1.out⟩
          · have h0' : ¬ (0 : Int) < (a.sp.length : Int) := by omega
            have HF : Hid (¬ RgA a) := fun g => h0 (HI.out.1 g).2.1
            clear h0
            go_wp2
            go_ret
            exact ⟨.inr ⟨HF.out, rfl⟩, X1.out⟩
        · have hsd : decide (IsSet a.sp) = false := decide_eq_false hs
          have HF : Hid (¬ RgA a) := fun g => hs (HI.out.1 g).1
          clear hs
          go_wp2
          go_ret
          exact ⟨.inr ⟨HF.out, rfl⟩, X1.out⟩
      · have HN : Hid (¬ RgA a) := fun g => hns (by have h := HR.out.1 g; exact h.1.2.2)
        have l1 := len_pos hns
        have l2 : 0 < a.ns.length := by omega
        have l3 : ¬ a.ns = [] := hns
        clear hns
        go_enter Tryz.func22, Tryz.ntmps22
        go_wp2
        go_ret
        exact ⟨.inr ⟨HN.out, rfl⟩, XW.out⟩
    · have HN : Hid (¬ RgA a) := fun g => hnm (by have h := HR.out.1 g; exact h.1.2.1)
      obtain ⟨n1, n2, n3, n4⟩ := txt_ne hnm
      clear hnm
      go_enter Tryz.func22, Tryz.ntmps22
      go_wp2
      go_ret
      exact ⟨.inr ⟨HN.out, rfl⟩, XW.out⟩
  · have HN : Hid (¬ RgA a) := fun g => hD (by have h := HR.out.1 g; exact h.1.1)
    have l1 := len_pos hD
    have l2 : 0 < a.D.length := by omega
    have l3 : ¬ a.D = [] := hD
    clear hD
    go_enter Tryz.func22, Tryz.ntmps22
    go_wp2
    go_ret
    exact ⟨.inr ⟨HN.out, rfl⟩, XW.out⟩
end Go.Proofs.YthgikaklcglpiaaGreatDoor.L5
