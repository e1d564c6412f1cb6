/-
  The document's Right of tests of methods, paths and headers, of those of no kind; of any. Condition: texts and lists no longer than a process can hold.
-/
import Derived.Test.YthgikaklcglpiaaGreatDoorP35
namespace Go.Proofs.YthgikaklcglpiaaGreatDoor.L5
open Go.RowKit Go.Lib

set_option maxRecDepth 100000 in
set_option maxHeartbeats 4000000 in
theorem rightD_9 (a : AD) (w : World) (ha : AtW w a) (hk : a.k = 9) : Calls Tryz.prog 22 #[.agg a.cells] w fun e w' => YesNo (RgA a) e ∧ Below w.heap.size w w' := by
  have XW := hide (show Below w.heap.size w (w.alloc (.cells a.cells 35)) from al (Below.refl _ _) _)
  have B1 := hide (heap_alloc_new w (.cells a.cells 35))
  have HA := hide ha
  have HX1 := hide (Bx5.of (x0 := .int .i64 a.k) (x1 := .string ⟨a.nm.toArray⟩) (x2 := .slice a.so a.sp.length a.sc) (x3 := .slice a.no a.ns.length a.nc) (x4 := .slice a.po a.D.length a.pc) B1.out)
  have HR := hide (rg9 hk)
  have hca : a.cells = #[.int .i64 a.k, .string ⟨a.nm.toArray⟩, .slice a.so a.sp.length a.sc, .slice a.no a.ns.length a.nc, .slice a.po a.D.length a.pc] := rfl
  rw [hca] at XW HX1 ⊢
  rw [hk] at XW HX1 ⊢
  clear ha B1 hca hk
  by_cases hsp : a.sp = []
  · have HEsp := hide hsp
    have hsp0 : a.sp.length = 0 := by rw [hsp]; rfl
    rw [hsp0] at XW HX1 ⊢
    clear hsp0
    clear hsp
    by_cases hD : a.D = []
    · have HED := hide hD
      have hD0 : a.D.length = 0 := by rw [hD]; rfl
      rw [hD0] at XW HX1 ⊢
      clear hD0
      clear hD
      by_cases hnm : a.nm = []
      · have HEnm := hide hnm
        rw [hnm] at XW HX1 ⊢
        clear hnm
        obtain ⟨P, hP⟩ : ∃ P, P = w.heap.size := ⟨_, rfl⟩
        go_enter Tryz.func22, Tryz.ntmps22
        go_upto_region 1 with fail
        rw [← hP]
        rw [← hP] at HX1
        clear hP
        generalize w.alloc (.cells #[.int .i64 9, .string ⟨([] : By).toArray⟩, .slice a.so 0 a.sc, .slice a.no a.ns.length a.nc, .slice a.po 0 a.pc] 35) = W at *
        obtain ⟨p0, p1, p2, p3, p4⟩ := HX1.out W (Below.refl _ _)
        have HC := hide (namesD_any a.no a.nc a.ns W HA.out.lns HA.out.lst (HA.out.ns.below XW.out))
        go_wp2_with (go_at_call 48; refine HC.out.mono ?_; rintro e w1 ⟨h1, x1⟩; obtain ⟨q, rfl, hq⟩ := YesNo.bool h1; have HQ := hide hq; have X1 := hide (bt XW.out x1 (Nat.le_refl _)); clear h1 x1 hq)
        go_ret
        exact ⟨YesNo.of (HQ.out.trans ⟨fun h => HR.out.2 ⟨⟨HEsp.out, HED.out, HEnm.out⟩, h⟩, fun h => (HR.out.1 h).2⟩), X1.out⟩
      · have HN : Hid (¬ RgA a) := fun g => hnm (by have h := HR.out.1 g; exact h.1.2.2)
        obtain ⟨n1, n2, n3, n4⟩ := txt_ne hnm
        clear hnm
        go_enter Tryz.func22, Tryz.ntmps22
        go_wp2
        go_ret
        exact ⟨.inr ⟨HN.out, rfl⟩, XW.out⟩
    · have HN : Hid (¬ RgA a) := fun g => hD (by have h := HR.out.1 g; exact h.1.2.1)
      have l1 := len_pos hD
      have l2 : 0 < a.D.length := by omega
      have l3 : ¬ a.D = [] := hD
      clear hD
      go_enter Tryz.func22, Tryz.ntmps22
      go_wp2
      go_ret
      exact ⟨.inr ⟨HN.out, rfl⟩, XW.out⟩
  · have HN : Hid (¬ RgA a) := fun g => hsp (by have h := HR.out.1 g; exact h.1.1)
    have l1 := len_pos hsp
    have l2 : 0 < a.sp.length := by omega
    have l3 : ¬ a.sp = [] := hsp
    clear hsp
    go_enter Tryz.func22, Tryz.ntmps22
    go_wp2
    go_ret
    exact ⟨.inr ⟨HN.out, rfl⟩, XW.out⟩
set_option maxRecDepth 100000 in
set_option maxHeartbeats 4000000 in
theorem rightD_10 (a : AD) (w : World) (ha : AtW w a) (hk : a.k = 10) : Calls Tryz.prog 22 #[.agg a.cells] w fun e w' => YesNo (RgA a) e ∧ Below w.heap.size w w' := by
  have XW := hide (show Below w.heap.size w (w.alloc (.cells a.cells 35)) from al (Below.refl _ _) _)
  have B1 := hide (heap_alloc_new w (.cells a.cells 35))
  have HA := hide ha
  have HX1 := hide (Bx5.of (x0 := .int .i64 a.k) (x1 := .string ⟨a.nm.toArray⟩) (x2 := .slice a.so a.sp.length a.sc) (x3 := .slice a.no a.ns.length a.nc) (x4 := .slice a.po a.D.length a.pc) B1.out)
  have HR := hide (rg10 hk)
  have hca : a.cells = #[.int .i64 a.k, .string ⟨a.nm.toArray⟩, .slice a.so a.sp.length a.sc, .slice a.no a.ns.length a.nc, .slice a.po a.D.length a.pc] := rfl
  rw [hca] at XW HX1 ⊢
  rw [hk] at XW HX1 ⊢
  clear ha B1 hca hk
  by_cases hsp : a.sp = []
  · have HEsp := hide hsp
    have hsp0 : a.sp.length = 0 := by rw [hsp]; rfl
    rw [hsp0] at XW HX1 ⊢
    clear hsp0
    clear hsp
    by_cases hnm : a.nm = []
    · have HEnm := hide hnm
      rw [hnm] at XW HX1 ⊢
      clear hnm
      by_cases hns : a.ns = []
      · have HEns := hide hns
        have hns0 : a.ns.length = 0 := by rw [hns]; rfl
        rw [hns0] at XW HX1 ⊢
        clear hns0
        clear hns
        obtain ⟨P, hP⟩ : ∃ P, P = w.heap.size := ⟨_, rfl⟩
        go_enter Tryz.func22, Tryz.ntmps22
        go_upto_region 1 with fail
        rw [← hP]
        rw [← hP] at HX1
        clear hP
        generalize w.alloc (.cells #[.int .i64 10, .string ⟨([] : By).toArray⟩, .slice a.so 0 a.sc, .slice a.no 0 a.nc, .slice a.po a.D.length a.pc] 35) = W at *
        obtain ⟨p0, p1, p2, p3, p4⟩ := HX1.out W (Below.refl _ _)
        have HC := hide (refRightP_any a.po a.pc a.D W (fun d hd => Nat.le_trans (HA.out.lpc d hd) (by decide)) (HA.out.pc.below XW.out))
        go_wp2_with (go_at_call 49; refine HC.out.mono ?_; rintro e w1 ⟨h1, x1⟩; obtain ⟨q, rfl, hq⟩ := YesNo.bool h1; have HQ := hide hq; have X1 := hide (bt XW.out x1 (Nat.le_refl _)); clear h1 x1 hq)
        go_ret
        exact ⟨YesNo.of (HQ.out.trans ⟨fun h => HR.out.2 ⟨⟨HEsp.out, HEnm.out, HEns.out⟩, h⟩, fun h => (HR.out.1 h).2⟩), X1.out⟩
      · have HN : Hid (¬ RgA a) := fun g => hns (by have h := HR.out.1 g; exact h.1.2.2)
        have l1 := len_pos hns
        have l2 : 0 < a.ns.length := by omega
        have l3 : ¬ a.ns = [] := hns
        clear hns
        go_enter Tryz.func22, Tryz.ntmps22
        go_wp2
        go_ret
        exact ⟨.inr ⟨HN.out, rfl⟩, XW.out⟩
    · have HN : Hid (¬ RgA a) := fun g => hnm (by have h := HR.out.1 g; exact h.1.2.1)
      obtain ⟨n1, n2, n3, n4⟩ := txt_ne hnm
      clear hnm
      go_enter Tryz.func22, Tryz.ntmps22
      go_wp2
      go_ret
      exact ⟨.inr ⟨HN.out, rfl⟩, XW.out⟩
  · have HN : Hid (¬ RgA a) := fun g => hsp (by have h := HR.out.1 g; exact h.1.1)
    have l1 := len_pos hsp
    have l2 : 0 < a.sp.length := by omega
    have l3 : ¬ a.sp = [] := hsp
    clear hsp
    go_enter Tryz.func22, Tryz.ntmps22
    go_wp2
    go_ret
    exact ⟨.inr ⟨HN.out, rfl⟩, XW.out⟩
set_option maxRecDepth 100000 in
set_option maxHeartbeats 4000000 in
theorem rightD_11 (a : AD) (w : World) (ha : AtW w a) (hk : a.k = 11) : Calls Tryz.prog 22 #[.agg a.cells] w fun e w' => YesNo (RgA a) e ∧ Below w.heap.size w w' := by
  have XW := hide (show Below w.heap.size w (w.alloc (.cells a.cells 35)) from al (Below.refl _ _) _)
  have B1 := hide (heap_alloc_new w (.cells a.cells 35))
  have HA := hide ha
  have HX1 := hide (Bx5.of (x0 := .int .i64 a.k) (x1 := .string ⟨a.nm.toArray⟩) (x2 := .slice a.so a.sp.length a.sc) (x3 := .slice a.no a.ns.length a.nc) (x4 := .slice a.po a.D.length a.pc) B1.out)
  have HR := hide (rg11 hk)
  have hca : a.cells = #[.int .i64 a.k, .string ⟨a.nm.toArray⟩, .slice a.so a.sp.length a.sc, .slice a.no a.ns.length a.nc, .slice a.po a.D.length a.pc] := rfl
  rw [hca] at XW HX1 ⊢
  rw [hk] at XW HX1 ⊢
  clear ha B1 hca hk
  by_cases hsp : a.sp = []
  · have HEsp := hide hsp
    have hsp0 : a.sp.length = 0 := by rw [hsp]; rfl
    rw [hsp0] at XW HX1 ⊢
    clear hsp0
    clear hsp
    by_cases hns : a.ns = []
    · have HEns := hide hns
      have hns0 : a.ns.length = 0 := by rw [hns]; rfl
      rw [hns0] at XW HX1 ⊢
      clear hns0
      clear hns
      obtain ⟨P, hP⟩ : ∃ P, P = w.heap.size := ⟨_, rfl⟩
      go_enter Tryz.func22, Tryz.ntmps22
      go_upto_region 1 with fail
      rw [← hP]
      rw [← hP] at HX1
      clear hP
      generalize w.alloc (.cells #[.int .i64 11, .string ⟨a.nm.toArray⟩, .slice a.so 0 a.sc, .slice a.no 0 a.nc, .slice a.po a.D.length a.pc] 35) = W at *
      obtain ⟨p0, p1, p2, p3, p4⟩ := HX1.out W (Below.refl _ _)
      have HC := hide (refRightP_any a.po a.pc a.D W (fun d hd => Nat.le_trans (HA.out.lpc d hd) (by decide)) (HA.out.pc.below XW.out))
      have HH := hide (fun V => headerNameD_any a.nm V HA.out.lnm)
      have HNN : Hid (HN a.nm ↔ mdB a.nm hnL 32 = true) := Iff.rfl
      generalize mdB a.nm hnL 32 = m at *
      go_upto_region 17 with (go_at_call 49; refine HC.out.mono ?_; rintro e w1 ⟨h1, x1⟩; obtain ⟨q, rfl, hq⟩ := YesNo.bool h1; have HQ := hide hq; have Y1 := hide x1; have X1 := hide (bt XW.out x1 (Nat.le_refl _)); clear h1 x1 hq)
      clear p0 p1 p2 p3 p4
      obtain ⟨p0, p1, p2, p3, p4⟩ := HX1.out w1 Y1.out
      cases q with
      | false =>
        have HF : Hid (¬ RgA a) := fun g => (by cases HQ.out.2 (HR.out.1 g).2.2)
        go_wp2_with (go_at_call 50; refine (HH.out _).mono ?_; rintro e w2 ⟨rfl, x2⟩; have X2 := hide (bt X1.out x2 (Nat.le_refl _)); clear x2)
        go_ret
        exact ⟨.inr ⟨HF.out, rfl⟩, X2.out⟩
      | true =>
        have HRT := hide (HQ.out.1 rfl)
        clear HQ
        cases m with
        | false =>
          have HF : Hid (¬ RgA a) := fun g => (by cases HNN.out.1 (HR.out.1 g).2.1)
          go_wp2_with (go_at_call 50; refine (HH.out _).mono ?_; rintro e w2 ⟨rfl, x2⟩; have X2 := hide (bt X1.out x2 (Nat.le_refl _)); clear x2)
          go_ret
          exact ⟨.inr ⟨HF.out, rfl⟩, X2.out⟩
        | true =>
          have HT : Hid (RgA a) := HR.out.2 ⟨⟨HEsp.out, HEns.out⟩, HNN.out.2 (by first | rfl | trivial), HRT.out⟩
          go_wp2_with (go_at_call 50; refine (HH.out _).mono ?_; rintro e w2 ⟨rfl, x2⟩; have X2 := hide (bt X1.out x2 (Nat.le_refl _)); clear x2)
          go_ret
          exact ⟨.inl ⟨HT.out, rfl⟩, X2.out⟩
    · have HN : Hid (¬ RgA a) := fun g => hns (by have h := HR.out.1 g; exact h.1.2)
      have l1 := len_pos hns
      have l2 : 0 < a.ns.length := by omega
      have l3 : ¬ a.ns = [] := hns
      clear hns
      go_enter Tryz.func22, Tryz.ntmps22
      go_wp2
      go_ret
      exact ⟨.inr ⟨HN.out, rfl⟩, XW.out⟩
  · have HN : Hid (¬ RgA a) := fun g => hsp (by have h := HR.out.1 g; exact h.1.1)
    have l1 := len_pos hsp
    have l2 : 0 < a.sp.length := by omega
    have l3 : ¬ a.sp = [] := hsp
    clear hsp
    go_enter Tryz.func22, Tryz.ntmps22
    go_wp2
    go_ret
    exact ⟨.inr ⟨HN.out, rfl⟩, XW.out⟩
set_option maxRecDepth 100000 in
set_option maxHeartbeats 4000000 in
theorem rightD_12 (a : AD) (w : World) (ha : AtW w a) (hk : a.k = 12) : Calls Tryz.prog 22 #[.agg a.cells] w fun e w' => YesNo (RgA a) e ∧ Below w.heap.size w w' := by
  have XW := hide (show Below w.heap.size w (w.alloc (.cells a.cells 35)) from al (Below.refl _ _) _)
  have B1 := hide (heap_alloc_new w (.cells a.cells 35))
  have HA := hide ha
  have HX1 := hide (Bx5.of (x0 := .int .i64 a.k) (x1 := .string ⟨a.nm.toArray⟩) (x2 := .slice a.so a.sp.length a.sc) (x3 := .slice a.no a.ns.length a.nc) (x4 := .slice a.po a.D.length a.pc) B1.out)
  have HR := hide (rg12 hk)
  have hca : a.cells = #[.int .i64 a.k, .string ⟨a.nm.toArray⟩, .slice a.so a.sp.length a.sc, .slice a.no a.ns.length a.nc, .slice a.po a.D.length a.pc] := rfl
  rw [hca] at XW HX1 ⊢
  rw [hk] at XW HX1 ⊢
  clear ha B1 hca hk
  by_cases hsp : a.sp = []
  · have HEsp := hide hsp
    have hsp0 : a.sp.length = 0 := by rw [hsp]; rfl
    rw [hsp0] at XW HX1 ⊢
    clear hsp0
    clear hsp
    by_cases hD : a.D = []
    · have HED := hide hD
      have hD0 : a.D.length = 0 := by rw [hD]; rfl
      rw [hD0] at XW HX1 ⊢
      clear hD0
      clear hD
      by_cases hns : a.ns = []
      · have HEns := hide hns
        have hns0 : a.ns.length = 0 := by rw [hns]; rfl
        rw [hns0] at XW HX1 ⊢
        clear hns0
        clear hns
        obtain ⟨P, hP⟩ : ∃ P, P = w.heap.size := ⟨_, rfl⟩
        go_enter Tryz.func22, Tryz.ntmps22
        go_upto_region 1 with fail
        rw [← hP]
        rw [← hP] at HX1
        clear hP
        generalize w.alloc (.cells #[.int .i64 12, .string ⟨a.nm.toArray⟩, .slice a.so 0 a.sc, .slice a.no 0 a.nc, .slice a.po 0 a.pc] 35) = W at *
        obtain ⟨p0, p1, p2, p3, p4⟩ := HX1.out W (Below.refl _ _)
        have HC := hide ((headerNameD_any a.nm W HA.out.lnm).mono (fun e w' h => ((⟨by rw [h.1]; exact YesNo.of Iff.rfl, h.2⟩ : YesNo (HN a.nm) e ∧ Below W.heap.size W w'))))
        go_wp2_with (go_at_call 50; refine HC.out.mono ?_; rintro e w1 ⟨h1, x1⟩; obtain ⟨q, rfl, hq⟩ := YesNo.bool h1; have HQ := hide hq; have X1 := hide (bt XW.out x1 (Nat.le_refl _)); clear h1 x1 hq)
        go_ret
        exact ⟨YesNo.of (HQ.out.trans ⟨fun h => HR.out.2 ⟨⟨HEsp.out, HED.out, HEns.out⟩, h⟩, fun h => (HR.out.1 h).2⟩), X1.out⟩
      · have HN : Hid (¬ RgA a) := fun g => hns (by have h := HR.out.1 g; exact h.1.2.2)
        have l1 := len_pos hns
        have l2 : 0 < a.ns.length := by omega
        have l3 : ¬ a.ns = [] := hns
        clear hns
        go_enter Tryz.func22, Tryz.ntmps22
        go_wp2
        go_ret
        exact ⟨.inr ⟨HN.out, rfl⟩, XW.out⟩
    · have HN : Hid (¬ RgA a) := fun g => hD (by have h := HR.out.1 g; exact h.1.2.1)
      have l1 := len_pos hD
      have l2 : 0 < a.D.length := by omega
      have l3 : ¬ a.D = [] := hD
      clear hD
      go_enter Tryz.func22, Tryz.ntmps22
      go_wp2
      go_ret
      exact ⟨.inr ⟨HN.out, rfl⟩, XW.out⟩
  · have HN : Hid (¬ RgA a) := fun g => hsp (by have h := HR.out.1 g; exact h.1.1)
    have l1 := len_pos hsp
    have l2 : 0 < a.sp.length := by omega
    have l3 : ¬ a.sp = [] := hsp
    clear hsp
    go_enter Tryz.func22, Tryz.ntmps22
    go_wp2
    go_ret
    exact ⟨.inr ⟨HN.out, rfl⟩, XW.out⟩
set_option maxRecDepth 100000 in
set_option maxHeartbeats 4000000 in
theorem rightD_other (a : AD) (w : World) (hk : a.k < 7 ∨ 12 < a.k) : Calls Tryz.prog 22 #[.agg a.cells] w fun e w' => YesNo (RgA a) e ∧ Below w.heap.size w w' := by
  have XW := hide (show Below w.heap.size w (w.alloc (.cells a.cells 35)) from al (Below.refl _ _) _)
  have HN : Hid (¬ RgA a) := fun g => by have h1 := g.1; have h2 := g.2.1; omega
  have hca : a.cells = #[.int .i64 a.k, .string ⟨a.nm.toArray⟩, .slice a.so a.sp.length a.sc, .slice a.no a.ns.length a.nc, .slice a.po a.D.length a.pc] := rfl
  rw [hca] at XW ⊢
  have e7 : (a.k == 7) = false := by simp; omega
  have e8 : (a.k == 8) = false := by simp; omega
  have e9 : (a.k == 9) = false := by simp; omega
  have e9n : (a.k != 9) = true := by simp; omega
  have e10 : (a.k == 10) = false := by simp; omega
  have e11 : (a.k == 11) = false := by simp; omega
  have e12 : (a.k == 12) = false := by simp; omega
  generalize a.k = k at *
  clear hca hk
  by_cases hsp : a.sp = []
  · have hsp0 : a.sp.length = 0 := by rw [hsp]; rfl
    rw [hsp0] at XW ⊢
    clear hsp0 hsp
    by_cases hD : a.D = []
    · have hD0 : a.D.length = 0 := by rw [hD]; rfl
      rw [hD0] at XW ⊢
      clear hD0 hD
      by_cases hnm : a.nm = []
      · rw [hnm] at XW ⊢
        clear hnm
        by_cases hns : a.ns = []
        · have hns0 : a.ns.length = 0 := by rw [hns]; rfl
          rw [hns0] at XW ⊢
          clear hns0 hns
          go_enter Tryz.func22, Tryz.ntmps22
          go_wp2
          go_ret
          exact ⟨.inr ⟨HN.out, rfl⟩, XW.out⟩
        · have l1 := len_pos hns
          have l2 : 0 < a.ns.length := by omega
          have l3 : ¬ a.ns = [] := hns
          clear hns
          go_enter Tryz.func22, Tryz.ntmps22
          go_wp2
          go_ret
          exact ⟨.inr ⟨HN.out, rfl⟩, XW.out⟩
      · obtain ⟨n1, n2, n3, n4⟩ := txt_ne hnm
        clear hnm
        go_enter Tryz.func22, Tryz.ntmps22
        go_wp2
        go_ret
        exact ⟨.inr ⟨HN.out, rfl⟩, XW.out⟩
    · have l1 := len_pos hD
      have l2 : 0 < a.D.length := by omega
      have l3 : ¬ a.D = [] := hD
      clear hD
      go_enter Tryz.func22, Tryz.ntmps22
      go_wp2
      go_ret
      exact ⟨.inr ⟨HN.out, rfl⟩, XW.out⟩
  · have l1 := len_pos hsp
    have l2 : 0 < a.sp.length := by omega
    have l3 : ¬ a.sp = [] := hsp
    clear hsp
    go_enter Tryz.func22, Tryz.ntmps22
    go_wp2
    go_ret
    exact ⟨.inr ⟨HN.out, rfl⟩, XW.out⟩
theorem rightD_any (a : AD) (w : World) (ha : AtW w a) : Calls Tryz.prog 22 #[.agg a.cells] w fun e w' => YesNo (RgA a) e ∧ Below w.heap.size w w' := by
  rcases (by omega : a.k = 7 ∨ a.k = 8 ∨ a.k = 9 ∨ a.k = 10 ∨ a.k = 11 ∨ a.k = 12 ∨ (a.k < 7 ∨ 12 < a.k)) with h | h | h | h | h | h | h
  · exact rightD_7 a w ha h
  · exact rightD_8 a w ha h
  · exact rightD_9 a w ha h
  · exact rightD_10 a w ha h
  · exact rightD_11 a w ha h
  · exact rightD_12 a w ha h
  · exact rightD_other a w h
end Go.Proofs.YthgikaklcglpiaaGreatDoor.L5
