/-
  Same of two tests by its contract. Condition: lists no longer than a process can hold.
-/
import Derived.Test.YthgikaklcglpiaaGreatDoorP12
import Derived.Test.YthgikaklcglpiaaGreatDoorP11
import Derived.Test.YthgikaklcglpiaaGreatDoorP10
namespace Go.Proofs.YthgikaklcglpiaaGreatDoor.L5
open Go.RowKit Go.Lib

/-- A test as it lies in memory. -/
structure AD where
  k : Int
  nm : By
  sp : List Spn
  so : Option Addr
  sc : Nat
  ns : List By
  no : Option Addr
  nc : Nat
  D : List PD
  po : Option Addr
  pc : Nat
def AD.cells (a : AD) : Array Value := #[.int .i64 a.k, .string ⟨a.nm.toArray⟩, .slice a.so a.sp.length a.sc, .slice a.no a.ns.length a.nc, .slice a.po a.D.length a.pc]
structure AtW (w : World) (a : AD) : Prop where
  sp : SpAt w a.so a.sp
  ns : StAt w a.no a.ns
  pc : PcAt w a.po a.D
  lsp : a.sp.length ≤ 140737488351232
  lns : a.ns.length ≤ 140737488351232
  lD : a.D.length ≤ 140737488351232
  lpc : ∀ d ∈ a.D, d.p.set.length ≤ 4294967296
  lnm : a.nm.length ≤ 140737488351232
  lst : ∀ s ∈ a.ns, s.length ≤ 140737488351232
theorem AtW.below {w w' : World} {a : AD} (h : AtW w a) (x : Below w.heap.size w w') : AtW w' a := ⟨h.sp.below x, h.ns.below x, h.pc.below x, h.lsp, h.lns, h.lD, h.lpc, h.lnm, h.lst⟩
def sameA (a b : AD) : Bool := (a.k == b.k) && ((a.nm == b.nm) && (decide (a.sp = b.sp) && (decide (a.ns = b.ns) && pcsEq a.D b.D)))
set_option maxRecDepth 100000 in
set_option maxHeartbeats 4000000 in
theorem same_any (a b : AD) (w : World) (ha : AtW w a) (hb : AtW w b) : Calls Tryz.prog 21 #[.agg a.cells, .agg b.cells] w fun e w' => e = .returned (.bool (sameA a b)) ∧ Below w.heap.size w w' := by
  have XW := hide (show Below w.heap.size w ((w.alloc (.cells a.cells 35)).alloc (.cells b.cells 35)) from al (al (Below.refl _ _) _) _)
  have HS := hide (fun V (y : Below w.heap.size w V) => equalS_any a.so b.so a.sc b.sc a.sp b.sp V ha.lsp (ha.sp.below y) (hb.sp.below y))
  have HT := hide (fun V (y : Below w.heap.size w V) => equalT_any a.no b.no a.nc b.nc a.ns b.ns V ha.lns (ha.ns.below y) (hb.ns.below y))
  have HF := hide (fun V (y : Below w.heap.size w V) => equalF_any a.po b.po a.pc b.pc a.D b.D V ha.lD (fun d hd => Nat.le_trans (ha.lpc d hd) (by decide)) (ha.pc.below y) (hb.pc.below y))
  clear ha hb
  obtain ⟨k1, m1, s1, o1, c1, n1, p1, d1, D1, q1, e1⟩ := a
  obtain ⟨k2, m2, s2, o2, c2, n2, p2, d2, D2, q2, e2⟩ := b
  simp only [AD.cells] at XW HS HT HF ⊢
  have HP : Hid (sameA ⟨k1, m1, s1, o1, c1, n1, p1, d1, D1, q1, e1⟩ ⟨k2, m2, s2, o2, c2, n2, p2, d2, D2, q2, e2⟩ = ((k1 == k2) && ((m1 == m2) && (decide (s1 = s2) && (decide (n1 = n2) && pcsEq D1 D2))))) := rfl
  rw [HP.out]
  clear HP
  have B1 : Hid (((w.alloc (.cells #[.int .i64 k1, .string ⟨m1.toArray⟩, .slice o1 s1.length c1, .slice p1 n1.length d1, .slice q1 D1.length e1] 35)).alloc (.cells #[.int .i64 k2, .string ⟨m2.toArray⟩, .slice o2 s2.length c2, .slice p2 n2.length d2, .slice q2 D2.length e2] 35)).heap[w.heap.size]? = some (.cells #[.int .i64 k1, .string ⟨m1.toArray⟩, .slice o1 s1.length c1, .slice p1 n1.length d1, .slice q1 D1.length e1] 35 (0, 0))) := (heap_alloc_old _ _ (by simp)).trans (heap_alloc_new w _)
  have B2 : Hid (((w.alloc (.cells #[.int .i64 k1, .string ⟨m1.toArray⟩, .slice o1 s1.length c1, .slice p1 n1.length d1, .slice q1 D1.length e1] 35)).alloc (.cells #[.int .i64 k2, .string ⟨m2.toArray⟩, .slice o2 s2.length c2, .slice p2 n2.length d2, .slice q2 D2.length e2] 35)).heap[w.heap.size + 1]? = some (.cells #[.int .i64 k2, .string ⟨m2.toArray⟩, .slice o2 s2.length c2, .slice p2 n2.length d2, .slice q2 D2.length e2] 35 (0, 0))) := by
    unfold Hid
    rw [show w.heap.size + 1 = (w.alloc (.cells #[.int .i64 k1, .string ⟨m1.toArray⟩, .slice o1 s1.length c1, .slice p1 n1.length d1, .slice q1 D1.length e1] 35)).heap.size by simp]
    exact heap_alloc_new _ _
  obtain ⟨P, hP⟩ : ∃ P, P = w.heap.size := ⟨_, rfl⟩
  obtain ⟨Q, hQ⟩ : ∃ Q, Q = w.heap.size + 1 := ⟨_, rfl⟩
  by_cases hk : k1 = k2
  · subst hk
    rw [show (k1 == k1) = true by simp, Bool.true_and]
    by_cases hm : m1 = m2
    · subst hm
      rw [show (m1 == m1) = true by simp, Bool.true_and]
      generalize decide (s1 = s2) = b1 at *
      generalize decide (n1 = n2) = b2 at *
      generalize pcsEq D1 D2 = b3 at *
      generalize s1.length = ls1 at *
      generalize n1.length = ln1 at *
      generalize D1.length = lD1 at *
      generalize s2.length = ls2 at *
      generalize n2.length = ln2 at *
      generalize D2.length = lD2 at *
      go_enter Tryz.func21, Tryz.ntmps21
      go_upto_region 1 with fail
      rw [← hQ, ← hP]
      rw [← hP] at B1
      rw [← hQ] at B2
      clear hP hQ
      generalize (w.alloc (.cells #[.int .i64 k1, .string ⟨m1.toArray⟩, .slice o1 ls1 c1, .slice p1 ln1 d1, .slice q1 lD1 e1] 35)).alloc (.cells #[.int .i64 k1, .string ⟨m1.toArray⟩, .slice o2 ls2 c2, .slice p2 ln2 d2, .slice q2 lD2 e2] 35) = W at *
      have r0 : W.cell? ⟨P, 0, none⟩ = some (.int .i64 k1) := by rw [cell_of_row _ _ _ _ _ _ B1.out]; rfl
      have r1 : W.cell? ⟨P, 1, none⟩ = some (.string ⟨m1.toArray⟩) := by rw [cell_of_row _ _ _ _ _ _ B1.out]; rfl
      have r2 : W.cell? ⟨P, 2, none⟩ = some (.slice o1 ls1 c1) := by rw [cell_of_row _ _ _ _ _ _ B1.out]; rfl
      have t0 : W.cell? ⟨Q, 0, none⟩ = some (.int .i64 k1) := by rw [cell_of_row _ _ _ _ _ _ B2.out]; rfl
      have t1 : W.cell? ⟨Q, 1, none⟩ = some (.string ⟨m1.toArray⟩) := by rw [cell_of_row _ _ _ _ _ _ B2.out]; rfl
      have t2 : W.cell? ⟨Q, 2, none⟩ = some (.slice o2 ls2 c2) := by rw [cell_of_row _ _ _ _ _ _ B2.out]; rfl
      have HC : Hid (∀ V, Below w.heap.size w V → Below W.heap.size W V → V.cell? ⟨P, 3, none⟩ = some (.slice p1 ln1 d1) ∧ V.cell? ⟨P, 4, none⟩ = some (.slice q1 lD1 e1) ∧ V.cell? ⟨Q, 3, none⟩ = some (.slice p2 ln2 d2) ∧ V.cell? ⟨Q, 4, none⟩ = some (.slice q2 lD2 e2)) := fun V _ y => by
        have g1 := (y.block P (lt_of_block B1.out)).trans B1.out
        have g2 := (y.block Q (lt_of_block B2.out)).trans B2.out
        refine ⟨?_, ?_, ?_, ?_⟩
        · rw [cell_of_row _ _ _ _ _ _ g1]; rfl
        · rw [cell_of_row _ _ _ _ _ _ g1]; rfl
        · rw [cell_of_row _ _ _ _ _ _ g2]; rfl
        · rw [cell_of_row _ _ _ _ _ _ g2]; rfl
      clear B1 B2
      cases b1 with
      | false =>
        go_wp2_with (go_at_call 43; refine (HS.out _ XW.out).mono ?_; rintro e w1 ⟨rfl, x1⟩; have X1 := hide (bt XW.out x1 (Nat.le_refl _)); clear x1)
        go_ret
        exact ⟨rfl, X1.out⟩
      | true =>
        cases b2 with
        | false =>
          go_wp2_with (first | (go_at_call 43; refine (HS.out _ XW.out).mono ?_; rintro e w1 ⟨rfl, x1⟩; have X1 := hide (bt XW.out x1 (Nat.le_refl _)); obtain ⟨u1, u2, u3, u4⟩ := HC.out _ X1.out x1; clear x1) | (go_at_call 44; refine (HT.out _ X1.out).mono ?_; rintro e w2 ⟨rfl, x2⟩; have X2 := hide (bt X1.out x2 (Nat.le_refl _)); clear x2))
          go_ret
          exact ⟨rfl, X2.out⟩
        | true =>
          go_wp2_with (first | (go_at_call 43; refine (HS.out _ XW.out).mono ?_; rintro e w1 ⟨rfl, x1⟩; have X1 := hide (bt XW.out x1 (Nat.le_refl _)); obtain ⟨u1, -, u3, -⟩ := HC.out _ X1.out x1; have Y1 := hide x1; clear x1) | (go_at_call 44; refine (HT.out _ X1.out).mono ?_; rintro e w2 ⟨rfl, x2⟩; have X2 := hide (bt X1.out x2 (Nat.le_refl _)); obtain ⟨-, v2, -, v4⟩ := HC.out _ X2.out (bt Y1.out x2 (Nat.le_refl _)); clear x2) | (go_at_call 45; refine (HF.out _ X2.out).mono ?_; rintro e w3 ⟨rfl, x3⟩; have X3 := hide (bt X2.out x3 (Nat.le_refl _)); clear x3))
          go_ret
          exact ⟨rfl, X3.out⟩
    · have hm' : (m1 == m2) = false := by simpa using hm
      rw [hm', Bool.false_and]
      clear HS HT HF B1 B2 hP hQ
      go_enter Tryz.func21, Tryz.ntmps21
      go_wp2
      go_ret
      exact ⟨rfl, XW.out⟩
  · have hk' : (k1 == k2) = false := by simpa using hk
    rw [hk', Bool.false_and]
    clear HS HT HF B1 B2 hP hQ
    go_enter Tryz.func21, Tryz.ntmps21
    go_wp2
    go_ret
    exact ⟨rfl, XW.out⟩
end Go.Proofs.YthgikaklcglpiaaGreatDoor.L5
/-
  madeOf, isHeaderName, areMethods by their contracts. Condition: texts and lists no longer than a process can hold.
-/
namespace Go.Proofs.YthgikaklcglpiaaGreatDoor.L5
open Go.RowKit Go.Lib

theorem dw_idem {α : Type} (p : α → Bool) : ∀ l : List α, (l.dropWhile p).dropWhile p = l.dropWhile p
  | [] => rfl
  | x :: l => by
    rw [List.dropWhile_cons]
    split
    · exact dw_idem p l
    · rw [List.dropWhile_cons, if_neg (by assumption)]
theorem dw_nil {α : Type} (p : α → Bool) : ∀ l : List α, l.dropWhile p = [] ↔ l.all p = true
  | [] => by simp
  | x :: l => by
    rw [List.dropWhile_cons, List.all_cons, Bool.and_eq_true]
    split
    · rename_i h
      rw [dw_nil p l]
      exact ⟨fun g => ⟨h, g⟩, fun g => g.2⟩
    · rename_i h
      exact ⟨fun g => (by cases g), fun g => absurd g.1 h⟩
theorem trim_nil (l cs : By) : Lib.trimS l cs = [] ↔ l.all (cs.contains ·) = true := by
  unfold Lib.trimS Lib.trimLeftS Lib.trimRightS
  rw [dw_nil, List.all_reverse, ← dw_nil, dw_idem, dw_nil, List.all_reverse]
/-- At least one byte, no more than some, all of them among those that it may have. -/
def mdB (s may : By) (most : Int) : Bool := !s.isEmpty && (decide ((s.length : Int) ≤ most) && s.all (may.contains ·))
theorem size_by (s : By) : (⟨s.toArray⟩ : ByteArray).size = s.length := by simp [ByteArray.size]
set_option maxRecDepth 100000 in
set_option maxHeartbeats 1000000 in
theorem madeOf_any (s may : By) (most : Int) (w : World) (hs : s.length ≤ 140737488351232) (hm : may.length ≤ 100) (ha : may.all (fun b => decide (b.toNat < 128)) = true) :
    Calls Tryz.prog 184 #[.string ⟨s.toArray⟩, .string ⟨may.toArray⟩, .int .i64 most] w fun e w' => e = .returned (.bool (mdB s may most)) ∧ Below w.heap.size w w' := by
  have hz := size_by s
  cases s with
  | nil =>
    clear ha hm hs
    go_enter Tryz.func184, Tryz.ntmps184
    go_wp2
    go_ret
    exact ⟨rfl, Below.refl _ _⟩
  | cons b t =>
    obtain ⟨s, hss⟩ : ∃ s, s = b :: t := ⟨_, rfl⟩
    have HMB : Hid (mdB (b :: t) may most = (decide (((b :: t).length : Int) ≤ most) && (b :: t).all (may.contains ·))) := rfl
    rw [← hss] at hz hs HMB ⊢
    have hne : (⟨s.toArray⟩ : ByteArray).toList.isEmpty = false := by rw [ByteArray.toList_eq, hss]; rfl
    have hse : s.isEmpty = false := by rw [hss]; rfl
    have hsn : (s == []) = false := by rw [hss]; rfl
    have hsn2 : (s != []) = true := by rw [hss]; rfl
    clear hss
    by_cases hl : (s.length : Int) ≤ most
    · have HT := hide (Tryz.strings_Trim_laid ⟨s.toArray⟩ ⟨may.toArray⟩ w (by rw [hz]; omega) (by rw [size_by]; omega) (ascii_of_all ha))
      have HMB2 : Hid (mdB s may most = s.all (may.contains ·)) := by unfold Hid; rw [HMB.out, decide_eq_true hl, Bool.true_and]
      have HTN := hide (trim_nil s may)
      clear ha hm HMB
      simp only at HT
      generalize Lib.trimS s may = r at *
      cases r with
      | nil =>
        have HR : Hid (s.all (may.contains ·) = true) := HTN.out.1 rfl
        clear HTN
        go_enter Tryz.func184, Tryz.ntmps184
        go_wp2_with (go_at_call 152; refine HT.out.mono ?_; rintro e w1 ⟨rfl, x1⟩; have X1 := hide x1; clear x1)
        go_ret
        exact ⟨by rw [HMB2.out, HR.out]; rfl, X1.out⟩
      | cons c r =>
        have HR : Hid (s.all (may.contains ·) = false) := by
          unfold Hid
          cases h : s.all (may.contains ·) with
          | false => rfl
          | true => cases HTN.out.2 h
        have hre : (⟨(c :: r).toArray⟩ : ByteArray).toList.isEmpty = false := by rw [ByteArray.toList_eq]; rfl
        clear HTN
        go_enter Tryz.func184, Tryz.ntmps184
        go_wp2_with (go_at_call 152; refine HT.out.mono ?_; rintro e w1 ⟨rfl, x1⟩; have X1 := hide x1; clear x1)
        go_ret
        exact ⟨by rw [HMB2.out, HR.out]; rfl, X1.out⟩
    · have HMB2 : Hid (mdB s may most = false) := by unfold Hid; rw [HMB.out, decide_eq_false hl, Bool.false_and]
      clear ha hm HMB
      go_enter Tryz.func184, Tryz.ntmps184
      go_wp2
      go_ret
      exact ⟨by rw [HMB2.out]; rfl, Below.refl _ _⟩
/-- The letters of a method, the bytes of a header's name. -/
def grL : By := [65, 66, 67, 68, 69, 70, 71, 72, 73, 74, 75, 76, 77, 78, 79, 80, 81, 82, 83, 84, 85, 86, 87, 88, 89, 90]
def hnL : By := [97, 98, 99, 100, 101, 102, 103, 104, 105, 106, 107, 108, 109, 110, 111, 112, 113, 114, 115, 116, 117, 118, 119, 120, 121, 122, 48, 49, 50, 51, 52, 53, 54, 55, 56, 57, 45]
set_option maxRecDepth 100000 in
theorem headerName_any (s : By) (w : World) (hs : s.length ≤ 140737488351232) : Calls Tryz.prog 135 #[.string ⟨s.toArray⟩] w fun e w' => e = .returned (.bool (mdB s hnL 32)) ∧ Below w.heap.size w w' := by
  have HM := hide (madeOf_any s hnL 32 w hs (by decide) (by decide))
  generalize mdB s hnL 32 = q at *
  unfold hnL at HM
  go_enter Tryz.func135, Tryz.ntmps135
  go_wp2_with (go_at_call 184; refine HM.out.mono ?_; rintro e w1 ⟨rfl, x1⟩; have X1 := hide x1; clear x1)
  go_ret
  exact ⟨rfl, X1.out⟩
end Go.Proofs.YthgikaklcglpiaaGreatDoor.L5
/-
  The writer's method and text, and what it does with each method of a list, where they go well. Condition: what is written fits.
-/
namespace Go.Proofs.YthgikaklcglpiaaGreatDoor.L9
open Go.RowKit Go.Lib

def metW (t : By) (s : WS) : Option WS := if L5.mdB t L5.grL 16 = true ∧ t.length ≤ 8000 then wrdW t s else none
def txtW (t : By) (s : WS) : Option WS := if (quoP t).1 = 0 ∧ t.length ≤ 8000 then othW (quoP t).2 s else none
theorem md_parts {t : By} (h : L5.mdB t L5.grL 16 = true) : ¬ t = [] ∧ (t.length : Int) ≤ 16 ∧ Lib.trimS t L5.grL = [] := by
  unfold L5.mdB at h
  rw [Bool.and_eq_true, Bool.and_eq_true, decide_eq_true_iff] at h
  refine ⟨fun e => ?_, h.2.1, (L5.trim_nil t L5.grL).2 h.2.2⟩
  rw [e] at h
  cases h.1
set_option maxHeartbeats 2000000 in
set_option maxRecDepth 100000 in
theorem method_ok {w : World} {base wp : Nat} {s : WS} {t : By} {x : WS} (h : WrA w base wp s.1 s.2) (hx : metW t s = some x) : Calls Tryz.prog 339 #[.pointer (some ⟨wp, 0, none⟩), .string ⟨t.toArray⟩] w (PostW base wp w x) := by
  unfold metW at hx
  split at hx
  · rename_i hm
    obtain ⟨m1, m2, m3⟩ := md_parts hm.1
    have hz := L5.size_by t
    have HT := hide (Tryz.strings_Trim_laid ⟨t.toArray⟩ ⟨L5.grL.toArray⟩ w (by rw [hz]; omega) (by rw [L5.size_by]; decide) (ascii_of_all (by decide)))
    simp only at HT
    rw [m3] at HT
    unfold L5.grL at HT
    have HM := hide must_ok
    have HW := hide (fun w1 (y : Below w.heap.size w w1) => word_ok (h.below y) hx)
    have hne : (⟨t.toArray⟩ : ByteArray).toList.isEmpty = false := by
      rw [ByteArray.toList_eq]
      cases t with
      | nil => exact absurd rfl m1
      | cons b t => rfl
    have hse : t.isEmpty = false := by
      cases t with
      | nil => exact absurd rfl m1
      | cons b t => rfl
    have hsn : (t == []) = false := by simpa using m1
    have hsn2 : (t != []) = true := by simpa using m1
    clear m1 m3 hm hx h
    go_enter Tryz.func339, Tryz.ntmps339
    go_upto_region 1 with (first | (go_at_call 152; refine HT.out.mono ?_; rintro e w1 ⟨rfl, x1⟩; have X1 := hide x1; clear x1) | (go_at_call 192; refine (HM.out _).mono ?_; rintro e w2 ⟨rfl, hw⟩; have hw2 := hw.symm; clear hw; subst hw2))
    go_wp2_with (go_at_call 248; refine (HW.out _ X1.out).mono ?_; rintro e w3 ⟨rfl, r3, x3⟩; have R3 := hide r3; have X3 := hide x3; clear r3 x3)
    go_end0
    exact ⟨rfl, R3.out, (KpO.of_below X1.out).trans X3.out⟩
  · cases hx
set_option maxHeartbeats 1000000 in
set_option maxRecDepth 100000 in
theorem text_ok {w : World} {base wp : Nat} {s : WS} {t : By} {x : WS} (h : WrA w base wp s.1 s.2) (hx : txtW t s = some x) : Calls Tryz.prog 340 #[.pointer (some ⟨wp, 0, none⟩), .string ⟨t.toArray⟩] w (PostW base wp w x) := by
  unfold txtW at hx
  split at hx
  · rename_i hm
    have HQ := hide (quote_any t w (by omega))
    rw [hm.1] at HQ
    have HM := hide must_ok
    have HW := hide (fun w1 (y : Below w.heap.size w w1) => other_ok (h.below y) hx)
    clear hm hx h
    generalize (quoP t).2 = q at *
    go_enter Tryz.func340, Tryz.ntmps340
    go_upto_region 2 with (first | (go_at_call 360; refine HQ.out.mono ?_; rintro e w1 ⟨rfl, x1⟩; have X1 := hide x1; clear x1) | (go_at_call 192; refine (HM.out _).mono ?_; rintro e w2 ⟨rfl, hw⟩; have hw2 := hw.symm; clear hw; subst hw2))
    go_wp2_with (go_at_call 250; refine (HW.out _ X1.out).mono ?_; rintro e w3 ⟨rfl, r3, x3⟩; have R3 := hide r3; have X3 := hide x3; clear r3 x3)
    go_end0
    exact ⟨rfl, R3.out, (KpO.of_below X1.out).trans X3.out⟩
  · cases hx
end Go.Proofs.YthgikaklcglpiaaGreatDoor.L9
