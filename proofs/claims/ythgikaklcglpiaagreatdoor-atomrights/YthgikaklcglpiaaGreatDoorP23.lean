/-
  areMethods, arePieces, isSet, hasOnly by their contracts. Condition: texts and lists no longer than a process can hold.
-/
import Derived.Test.YthgikaklcglpiaaGreatDoorP13
import Derived.Test.YthgikaklcglpiaaGreatDoorP22
namespace Go.Proofs.YthgikaklcglpiaaGreatDoor.L5
open Go.RowKit Go.Lib

def amAt (l : List By) (i : Nat) : Prop := mdB (l.getD i []) grL 16 = true ∧ (0 < i → Op.bytesLess (l.getD (i - 1) []) (l.getD i []) = true)
def AM (l : List By) : Prop := 1 ≤ l.length ∧ l.length ≤ 32 ∧ ∀ i, i < l.length → amAt l i
set_option maxRecDepth 100000 in
set_option maxHeartbeats 2000000 in
theorem methods_any (ao : Option Addr) (ac : Nat) (A : List By) (w : World) (hs : ∀ s ∈ A, s.length ≤ 140737488351232) (ha : StAt w ao A) :
    Calls Tryz.prog 131 #[.slice ao A.length ac] w fun e w' => YesNo (AM A) e ∧ Below w.heap.size w w' := by
  by_cases h1 : 1 ≤ A.length ∧ A.length ≤ 32
  · have h2 : ¬ (A.length : Int) < 1 := by omega
    have h3 : ¬ (32 : Int) < (A.length : Int) := by omega
    have H1 := hide h1
    have HA := hide ha
    have HS := hide hs
    clear h1 ha hs
    go_enter Tryz.func131, Tryz.ntmps131
    go_wp2
    clear h2 h3
    go_loopg [15] (A.length + 1) (fun g x wr => ∃ k : Nat, x = .int .i64 (k : Nat) ∧ k ≤ A.length ∧ Hid (∀ j, j < k → amAt A j) ∧ Hid (Below w.heap.size w wr) ∧ A.length - k < g)
    case atStart => exact ⟨0, rfl, by omega, hide fun j hj => by omega, hide (Below.refl _ _), by omega⟩
    case round =>
      obtain ⟨k, rfl, hk1, HE, X, hg⟩ := hrel
      have HG := hide hg
      clear hg
      by_cases hk : k < A.length
      · have hk' : (k : Int) < (A.length : Int) := by omega
        obtain ⟨pa, oa, rfl, _, ca⟩ := (HA.out.below X.out).get hk
        have a0 := ca k hk
        have HK := hide hk
        have HK1 := hide hk1
        have HM := hide (madeOf_any (A.getD k []) grL 16 wr (HS.out _ (by rw [List.getD_eq_getElem?_getD, List.getElem?_eq_getElem hk]; exact List.getElem_mem hk)) (by decide) (by decide))
        have HAT : Hid (amAt A k ↔ mdB (A.getD k []) grL 16 = true ∧ (0 < k → Op.bytesLess (A.getD (k - 1) []) (A.getD k []) = true)) := Iff.rfl
        have HC := hide (fun (V : World) (y : Below wr.heap.size wr V) => ((HA.out.below (bt X.out y (Nat.le_refl _))).get hk))
        unfold grL at HM
        rw [show mdB (A.getD k []) [65, 66, 67, 68, 69, 70, 71, 72, 73, 74, 75, 76, 77, 78, 79, 80, 81, 82, 83, 84, 85, 86, 87, 88, 89, 90] 16 = mdB (A.getD k []) grL 16 from rfl] at HM
        generalize mdB (A.getD k []) grL 16 = q at *
        obtain ⟨x, hx⟩ : ∃ x, x = A.getD k [] := ⟨_, rfl⟩
        rw [← hx] at a0 HM HAT
        have HX := hide hx
        clear ca hk hk1 hx
        cases q with
        | false =>
          go_wp2_with (go_at_call 184; refine HM.out.mono ?_; rintro e w1 ⟨rfl, x1⟩; have X1 := hide (bt X.out x1 (Nat.le_refl _)); clear x1)
          go_ret
          exact ⟨.inr ⟨fun h => (by cases (HAT.out.1 (h.2.2 k HK.out)).1), rfl⟩, X1.out⟩
        | true =>
          by_cases h0 : k = 0
          · subst h0
            have a0 : wr.cell? ⟨pa, oa, none⟩ = some (.string ⟨x.toArray⟩) := by simpa using a0
            go_wp2_with (go_at_call 184; refine HM.out.mono ?_; rintro e w1 ⟨rfl, x1⟩; have X1 := hide (bt X.out x1 (Nat.le_refl _)); clear x1)
            go_roundg (A.length - 1 + 1)
            case measure => have := HG.out; have := HK.out; omega
            case rel => exact ⟨1, by first | rfl | go_num, by have := HK.out; omega, hide fun j hj => by
              obtain rfl : j = 0 := by omega
              exact HAT.out.2 ⟨by first | rfl | trivial, fun h => by omega⟩, X1, by omega⟩
          · have hgt : (0 : Int) < (k : Int) := by omega
            have hgt' : 0 < k := by omega
            obtain ⟨j, hj⟩ : ∃ j, j + 1 = k := ⟨k - 1, by omega⟩
            have hw1 : (k : Int) - 1 = (j : Int) := by omega
            have hjl : (j : Int) < (A.length : Int) := by have := HK.out; omega
            have hwj : wrap64 (j : Int) = (j : Int) := by have := HK.out; have := H1.out; unfold wrap64; omega
            have fw : wrap64 ((k : Int) + 1) = ((k + 1 : Nat) : Int) := by have := HK.out; have := H1.out; unfold wrap64; omega
            have hjn : ((j : Int)).toNat = j := by simp
            obtain ⟨y, hy⟩ : ∃ y, y = A.getD j [] := ⟨_, rfl⟩
            have HCJ : Hid (∀ V, Below wr.heap.size wr V → V.cell? ⟨pa, oa + j, none⟩ = some (.string ⟨y.toArray⟩)) := fun V z => by
              obtain ⟨b, o, e1, _, c⟩ := HC.out V z
              injection e1 with e1
              injection e1 with e1 e2
              subst e1; subst e2
              rw [hy]
              exact c j (by have := HK.out; omega)
            have HAT2 : Hid (amAt A k ↔ Op.bytesLess y x = true) := by
              have := HAT.out
              rw [show k - 1 = j by omega, ← hy] at this
              exact this.trans ⟨fun h => h.2 hgt', fun h => ⟨rfl, fun _ => h⟩⟩
            have HJ := hide hj
            clear hy hj HC
            cases hbl : Op.bytesLess y x with
            | true =>
              rw [hbl] at HAT2
              go_wp2_with (go_at_call 184; refine HM.out.mono ?_; rintro e w1 ⟨rfl, x1⟩; have X1 := hide (bt X.out x1 (Nat.le_refl _)); have cj := HCJ.out _ x1; clear x1)
              go_roundg (A.length - (k + 1) + 1)
              case measure => have := HG.out; have := HK.out; omega
              case rel => exact ⟨k + 1, by first | rfl | (rw [fw]) | go_num | (congr 1; omega), by have := HK.out; omega, hide fun i hi => by
                by_cases e : i = k
                · rw [e]; exact HAT2.out.2 (by first | rfl | trivial)
                · exact HE.out i (by omega), X1, by omega⟩
            | false =>
              rw [hbl] at HAT2
              go_wp2_with (go_at_call 184; refine HM.out.mono ?_; rintro e w1 ⟨rfl, x1⟩; have X1 := hide (bt X.out x1 (Nat.le_refl _)); have cj := HCJ.out _ x1; clear x1)
              go_ret
              exact ⟨.inr ⟨fun h => (by cases HAT2.out.1 (h.2.2 k HK.out)), rfl⟩, X1.out⟩
      · have hk' : ¬ (k : Int) < (A.length : Int) := by omega
        go_wp2
        go_ret
        exact ⟨.inl ⟨⟨H1.out.1, H1.out.2, fun j hj => HE.out j (by omega)⟩, rfl⟩, X.out⟩
  · have HN : Hid (¬ AM A) := fun h => h1 ⟨h.1, h.2.1⟩
    by_cases h2 : A.length < 1
    · have h2' : (A.length : Int) < 1 := by omega
      clear h1 h2
      go_enter Tryz.func131, Tryz.ntmps131
      go_wp2
      go_ret
      exact ⟨.inr ⟨HN.out, rfl⟩, Below.refl _ _⟩
    · have h2' : ¬ (A.length : Int) < 1 := by omega
      have h3 : (32 : Int) < (A.length : Int) := by omega
      clear h1 h2
      go_enter Tryz.func131, Tryz.ntmps131
      go_wp2
      go_ret
      exact ⟨.inr ⟨HN.out, rfl⟩, Below.refl _ _⟩
end Go.Proofs.YthgikaklcglpiaaGreatDoor.L5
/-
  arePieces, isSet, hasOnly by their contracts. Condition: texts and lists no longer than a process can hold.
-/
namespace Go.Proofs.YthgikaklcglpiaaGreatDoor.L5
open Go.RowKit Go.Lib

set_option maxRecDepth 100000 in
theorem arePieces_any (ao : Option Addr) (ac : Nat) (D : List PD) (w : World) (hl : ∀ d ∈ D, d.p.set.length ≤ 4294967296) (ha : PcAt w ao D) :
    Calls Tryz.prog 133 #[.slice ao D.length ac] w fun e w' => YesNo (Rt (D.map PD.p)) e ∧ Below w.heap.size w w' := by
  have HP := hide (print_any ao ac D w hl ha)
  clear ha hl
  go_enter Tryz.func133, Tryz.ntmps133
  go_wp2_with (fail)
  refine HP.out.mono ?_
  rintro e w1 ⟨h1, x1⟩
  have X1 := hide x1
  clear x1
  rcases h1 with ⟨hr, rfl⟩ | ⟨hr, rfl⟩
  · have HR := hide hr
    clear hr
    go_wp2
    go_ret
    exact ⟨.inl ⟨HR.out, rfl⟩, X1.out⟩
  · have HR := hide hr
    clear hr
    go_wp2
    go_ret
    exact ⟨.inr ⟨HR.out, rfl⟩, X1.out⟩
/-- A set that has numbers, none above the highest one. -/
def Hst (L : List Spn) (hi : Int) : Prop := IsSet L ∧ 0 < L.length ∧ (L.getD (L.length - 1) (0, 0)).2 ≤ hi
set_option maxRecDepth 100000 in
set_option maxHeartbeats 1000000 in
theorem isSet_any (ao : Option Addr) (ac : Nat) (L : List Spn) (hi : Int) (w : World) (hl : L.length ≤ 140737488351232) (ha : SpAt w ao L) :
    Calls Tryz.prog 129 #[.slice ao L.length ac, .int .i64 hi] w fun e w' => YesNo (Hst L hi) e ∧ Below w.heap.size w w' := by
  have HR := hide (right_any ao ac L w hl ha)
  by_cases hs : IsSet L
  · have HS := hide hs
    rw [decide_eq_true hs] at HR
    by_cases h0 : 0 < L.length
    · have h0' : (0 : Int) < (L.length : Int) := by omega
      obtain ⟨j, hj⟩ : ∃ j, j + 1 = L.length := ⟨L.length - 1, by omega⟩
      have HCJ : Hid (∀ V, Below w.heap.size w V → ∃ pa oa, ao = some ⟨pa, oa, none⟩ ∧ V.cell? ⟨pa, oa + j * 2 + 1, none⟩ = some (.int .i64 (L.getD j (0, 0)).2)) := fun V y => by
        obtain ⟨pa, oa, e1, _, c⟩ := (ha.below y).get h0
        exact ⟨pa, oa, e1, (c j (by omega)).2⟩
      obtain ⟨pa, oa, rfl, _⟩ := ha.get h0
      have hw1 : (L.length : Int) - 1 = (j : Int) := by omega
      have hjl : (j : Int) < (L.length : Int) := by omega
      have hwj : wrap64 (j : Int) = (j : Int) := by unfold wrap64; omega
      have hjn : ((j : Int)).toNat = j := by simp
      have HH : Hid (Hst L hi ↔ (L.getD j (0, 0)).2 ≤ hi) := by
        unfold Hid Hst
        rw [show L.length - 1 = j by omega]
        exact ⟨fun h => h.2.2, fun h => ⟨hs, h0, h⟩⟩
      have HCK : Hid (∀ V, Below w.heap.size w V → V.cell? ⟨pa, oa + j * 2 + 1, none⟩ = some (.int .i64 (L.getD j (0, 0)).2)) := fun V y => by
        obtain ⟨b, o, e1, c⟩ := HCJ.out V y
        injection e1 with e1
        injection e1 with e1 e2
        subst e1; subst e2
        exact c
      clear ha HCJ hs h0 hj
      generalize (L.getD j (0, 0)).2 = z at *
      generalize L.length = n at *
      by_cases hz : z ≤ hi
      · go_enter Tryz.func129, Tryz.ntmps129
        go_wp2_with (go_at_call 181; refine HR.out.mono ?_; rintro e w1 ⟨rfl, x1⟩; have X1 := hide x1; have cj := HCK.out _ x1; clear x1)
        go_ret
        exact ⟨.inl ⟨HH.out.2 hz, rfl⟩, X1.out⟩
      · go_enter Tryz.func129, Tryz.ntmps129
        go_wp2_with (go_at_call 181; refine HR.out.mono ?_; rintro e w1 ⟨rfl, x1⟩; have X1 := hide x1; have cj := HCK.out _ x1; clear x1)
        go_ret
        exact ⟨.inr ⟨fun h => by have := HH.out.1 h; omega, by show Ending.returned (.bool (decide (z ≤ hi))) = _; rw [decide_eq_false (by omega)]⟩, X1.out⟩
    · have h0' : ¬ (0 : Int) < (L.length : Int) := by omega
      have HH : Hid (¬ Hst L hi) := fun h => h0 h.2.1
      clear ha hs h0
      go_enter Tryz.func129, Tryz.ntmps129
      go_wp2_with (go_at_call 181; refine HR.out.mono ?_; rintro e w1 ⟨rfl, x1⟩; have X1 := hide x1; clear x1)
      go_ret
      exact ⟨.inr ⟨HH.out, rfl⟩, X1.out⟩
  · rw [decide_eq_false hs] at HR
    have HH : Hid (¬ Hst L hi) := fun h => hs h.1
    clear ha hs
    go_enter Tryz.func129, Tryz.ntmps129
    go_wp2_with (go_at_call 181; refine HR.out.mono ?_; rintro e w1 ⟨rfl, x1⟩; have X1 := hide x1; clear x1)
    go_ret
    exact ⟨.inr ⟨HH.out, rfl⟩, X1.out⟩
/-- A test in a box of its own. -/
def TBx (w : World) (P : Nat) (a : AD) : Prop := w.heap[P]? = some (.cells a.cells 92 (0, 0))
theorem TBx.below {w w' : World} {P : Nat} {a : AD} (h : TBx w P a) (x : Below w.heap.size w w') : TBx w' P a := (x.block P (lt_of_block h)).trans h
theorem TBx.five {w : World} {P : Nat} {a : AD} (h : TBx w P a) : w.cell? ⟨P, 0, none⟩ = some (.int .i64 a.k) ∧ w.cell? ⟨P, 1, none⟩ = some (.string ⟨a.nm.toArray⟩) ∧ w.cell? ⟨P, 2, none⟩ = some (.slice a.so a.sp.length a.sc) ∧ w.cell? ⟨P, 3, none⟩ = some (.slice a.no a.ns.length a.nc) ∧ w.cell? ⟨P, 4, none⟩ = some (.slice a.po a.D.length a.pc) := by
  unfold TBx AD.cells at h
  refine ⟨?_, ?_, ?_, ?_, ?_⟩ <;> (rw [cell_of_row _ _ _ _ _ _ h]; rfl)
theorem five_of {w : World} {P : Nat} {x0 x1 x2 x3 x4 : Value} {T : TypeId} (h : w.heap[P]? = some (.cells #[x0, x1, x2, x3, x4] T (0, 0))) : w.cell? ⟨P, 0, none⟩ = some x0 ∧ w.cell? ⟨P, 1, none⟩ = some x1 ∧ w.cell? ⟨P, 2, none⟩ = some x2 ∧ w.cell? ⟨P, 3, none⟩ = some x3 ∧ w.cell? ⟨P, 4, none⟩ = some x4 := by
  refine ⟨?_, ?_, ?_, ?_, ?_⟩ <;> (rw [cell_of_row _ _ _ _ _ _ h]; rfl)
set_option maxRecDepth 100000 in
set_option maxHeartbeats 2000000 in
theorem hasOnly_any (P : Nat) (a b : AD) (w : World) (hP : TBx w P a) (ha : AtW w a) (hb : AtW w b) :
    Calls Tryz.prog 128 #[.pointer (some ⟨P, 0, none⟩), .agg b.cells] w fun e w' => e = .returned (.bool (sameA a { b with k := a.k })) ∧ Below w.heap.size w w' := by
  have XW := hide (show Below w.heap.size w (w.alloc (.cells b.cells 35)) from al (Below.refl _ _) _)
  have BQ := hide (heap_alloc_new w (.cells b.cells 35))
  have HP0 := hide hP
  obtain ⟨r0, r1, r2, r3, r4⟩ := (TBx.below hP XW.out).five
  have HPC : Hid (∀ V, Below w.heap.size w V → V.cell? ⟨P, 0, none⟩ = some (.int .i64 a.k) ∧ V.cell? ⟨P, 1, none⟩ = some (.string ⟨a.nm.toArray⟩) ∧ V.cell? ⟨P, 2, none⟩ = some (.slice a.so a.sp.length a.sc) ∧ V.cell? ⟨P, 3, none⟩ = some (.slice a.no a.ns.length a.nc) ∧ V.cell? ⟨P, 4, none⟩ = some (.slice a.po a.D.length a.pc)) := fun V y => (TBx.below HP0.out y).five
  have HS := hide (fun V (y : Below w.heap.size w V) => same_any a { b with k := a.k } V (ha.below y) ⟨hb.sp.below y, hb.ns.below y, hb.pc.below y, hb.lsp, hb.lns, hb.lD, hb.lpc, hb.lnm, hb.lst⟩)
  generalize sameA a { b with k := a.k } = q at *
  obtain ⟨Q, hQ⟩ : ∃ Q, Q = w.heap.size := ⟨_, rfl⟩
  have HQW : Hid (w.heap.size ≤ Q) := by rw [hQ]; exact Nat.le_refl _
  clear hP ha hb HP0 r1 r2 r3 r4
  obtain ⟨k1, m1, s1, o1, c1, n1, p1, d1, D1, q1, e1⟩ := a
  obtain ⟨k2, m2, s2, o2, c2, n2, p2, d2, D2, q2, e2⟩ := b
  simp only [AD.cells] at XW BQ HS HPC r0 ⊢
  generalize s1.length = ls1 at *
  generalize n1.length = ln1 at *
  generalize D1.length = lD1 at *
  generalize s2.length = ls2 at *
  generalize n2.length = ln2 at *
  generalize D2.length = lD2 at *
  go_enter Tryz.func128, Tryz.ntmps128
  go_upto_region 1 with fail
  rw [← hQ] at BQ ⊢
  clear hQ
  generalize w.alloc (.cells #[.int .i64 k2, .string ⟨m2.toArray⟩, .slice o2 ls2 c2, .slice p2 ln2 d2, .slice q2 lD2 e2] 35) = W at *
  have f0 := frozen_of_row W Q 0 _ _ BQ.out
  have t0 : W.cell? ⟨Q, 0, none⟩ = some (.int .i64 k2) := (five_of BQ.out).1
  go_upto_region 2 with fail
  have BQ2 : Hid ((W.setCell ⟨Q, 0, none⟩ (.int .i64 k1)).heap[Q]? = some (.cells #[.int .i64 k1, .string ⟨m2.toArray⟩, .slice o2 ls2 c2, .slice p2 ln2 d2, .slice q2 lD2 e2] 35 (0, 0))) := by
    have := block_setCell BQ.out 0 (.int .i64 k1)
    simpa [Hid] using this
  have X2 := hide (XW.out.setCell (p := ⟨Q, 0, none⟩) HQW.out (.int .i64 k1))
  clear f0 t0 r0 BQ XW
  generalize W.setCell ⟨Q, 0, none⟩ (.int .i64 k1) = W2 at *
  have HD : Hid (Below W2.heap.size W2 W2.drew) := (Below.refl _ _).drew
  have HQC : Hid (∀ V, Below W2.heap.size W2 V → V.cell? ⟨Q, 0, none⟩ = some (.int .i64 k1) ∧ V.cell? ⟨Q, 1, none⟩ = some (.string ⟨m2.toArray⟩) ∧ V.cell? ⟨Q, 2, none⟩ = some (.slice o2 ls2 c2) ∧ V.cell? ⟨Q, 3, none⟩ = some (.slice p2 ln2 d2) ∧ V.cell? ⟨Q, 4, none⟩ = some (.slice q2 lD2 e2)) := fun V y => five_of ((y.block Q (lt_of_block BQ2.out)).trans BQ2.out)
  refine wp_region_quiet (C := fun w' => Below W2.heap.size W2 w') (by kernel_rfl) (by kernel_rfl) HD.out ?_
  refine QW.out (l := _ :: _) ?_
  iterate 5 (refine QW.take (by rfl) ?_; apply Exists.intro; refine ⟨fun w' hw' => ?_, ?_⟩; (· (obtain ⟨g0, g1, g2, g3, g4⟩ := HPC.out w' (bt X2.out hw' (Nat.le_refl _)); obtain ⟨h0, h1, h2, h3, h4⟩ := HQC.out w' hw'; go_simp; first | done | (first | done | rfl))); try simp only [Act.put, List.setIfInBounds_toArray, List.set_cons_zero, List.set_cons_succ])
  iterate 1 (refine QW.take (by rfl) ?_; apply Exists.intro; refine ⟨fun w' hw' => ?_, ?_⟩; (· (obtain ⟨g0, g1, g2, g3, g4⟩ := HPC.out w' (bt X2.out hw' (Nat.le_refl _)); obtain ⟨h0, h1, h2, h3, h4⟩ := HQC.out w' hw'; go_simp; (refine (HS.out _ (bt X2.out hw' (Nat.le_refl _))).mono ?_; rintro e w2 ⟨rfl, x2⟩; exact ⟨rfl, bt hw' x2 (Nat.le_refl _)⟩))); try simp only [Act.put, List.setIfInBounds_toArray, List.set_cons_zero, List.set_cons_succ])
  iterate 1 (refine QW.take (by rfl) ?_; apply Exists.intro; refine ⟨fun w' hw' => ?_, ?_⟩; (· (obtain ⟨g0, g1, g2, g3, g4⟩ := HPC.out w' (bt X2.out hw' (Nat.le_refl _)); obtain ⟨h0, h1, h2, h3, h4⟩ := HQC.out w' hw'; go_simp; first | done | (first | done | rfl))); try simp only [Act.put, List.setIfInBounds_toArray, List.set_cons_zero, List.set_cons_succ])
  refine QW.nil ?_
  intro w3 x3
  have X3 := hide (bt X2.out x3 (Nat.le_refl _))
  clear x3 HS HPC HQC HD X2
  go_wp2
  go_ret
  exact ⟨rfl, X3.out⟩
end Go.Proofs.YthgikaklcglpiaaGreatDoor.L5
