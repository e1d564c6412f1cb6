/-
  The document's Close and Begin by their contracts. Condition: there are at most 64 pieces.
-/
import Derived.Test.YtaiijdnfimclbaaRst
import Derived.Deep.OwnRows
namespace Go.Proofs.Ytaiijdnfimclbaa
open Go.RowKit Go.Lib

/-- Marks, n of them. -/
def mkn (n : Nat) (f : Nat → Bool) : Array Value := ((List.range n).map fun i => Value.bool (f i)).toArray
theorem mkn_size (n : Nat) (f : Nat → Bool) : (mkn n f).size = n := by simp [mkn]
theorem mkn_get (n : Nat) (f : Nat → Bool) (i : Nat) (h : i < n) : (mkn n f)[i]? = some (.bool (f i)) := by simp [mkn, h]
theorem mkn_set (n : Nat) (f : Nat → Bool) (i : Nat) : (mkn n f).set! i (.bool true) = mkn n (upd f i) := by
  apply Array.ext_getElem?
  intro j
  unfold mkn upd
  by_cases hj : j < n
  · by_cases hi : i = j
    · subst hi; simp [hj]
    · have : ¬ j = i := fun h => hi h.symm
      simp [hj, hi, this]
  · simp [hj]
theorem mkn_made (n : Nat) : madeCells #[.bool false] n = mkn n (fun _ => false) := by
  apply Array.ext_getElem?
  intro j
  unfold mkn
  by_cases hj : j < n
  · simp [madeCells, hj, Nat.mod_one]
  · simp [madeCells, hj]
theorem Try.info4 : (Try.prog.info? 4).map (fun i => (i.zero, i.size, i.bytes)) = some (some (.bool false), 1, 1) := by kernel_rfl
theorem make_marks (n : Nat) (hn : n ≤ 64) (w : World) : (Instr.makeSlice 81 (.int .i64 ((n : Int) + 1)) (.int .i64 ((n : Int) + 1))).run Try.prog w = .ok (.slice (some ⟨w.heap.size, 0, none⟩) (n + 1) (n + 1)) (w.alloc (.cells (mkn (n + 1) fun _ => false) 4)) := by
  have := run_make_row' (P := Try.prog) 81 4 (.bool false) 1 (by kernel_rfl) Try.info4 rfl .i64 .i64 (n + 1) (by omega) (by omega) w
  rw [mkn_made] at this
  exact this
/-- Marks that lie in a block. -/
def MkAt (w : World) (g n : Nat) (f : Nat → Bool) : Prop := w.heap[g]? = some (.cells (mkn n f) 4 (0, 0))
theorem MkAt.cell {w : World} {g n : Nat} {f : Nat → Bool} (h : MkAt w g n f) {i : Nat} (hi : i < n) : w.cell? ⟨g, i, none⟩ = some (.bool (f i)) ∧ w.frozen? ⟨g, i, none⟩ = false :=
  ⟨by rw [cell_of_row _ _ _ _ _ _ h]; exact mkn_get _ _ _ hi, frozen_of_row _ _ _ _ _ h⟩
theorem MkAt.set {w : World} {g n : Nat} {f : Nat → Bool} (h : MkAt w g n f) (i : Nat) : MkAt (w.setCell ⟨g, i, none⟩ (.bool true)) g n (upd f i) := by
  unfold MkAt
  rw [← mkn_set]
  exact block_setCell h i _
theorem MkAt.kept {w w' : World} {g n : Nat} {f : Nat → Bool} (h : MkAt w g n f) (k : Below w.heap.size w w') : MkAt w' g n f := (k.block _ (lt_of_block h)).trans h
theorem kept_one {w : World} {g i : Nat} {v : Value} : Kept (fun k => k = g) w (w.setCell ⟨g, i, none⟩ v) := Kept.setCell (F := fun k => k = g) (p := ⟨g, i, none⟩) (Kept.refl _ _) rfl _
set_option maxRecDepth 100000 in
set_option maxHeartbeats 4000000 in
theorem refClose_any (ao : Option Addr) (cap g : Nat) (D : List PD) (f : Nat → Bool) (w0 w : World) (hl : D.length ≤ 64) (hat : PcAt w0 ao D) (hB : Below w0.heap.size w0 w) (hg : w0.heap.size ≤ g) (hm : MkAt w g (D.length + 1) f) :
    Calls Try.prog 63 #[.slice ao D.length cap, .slice (some ⟨g, 0, none⟩) (D.length + 1) (D.length + 1)] w fun e w' => e = .returned (.tuple #[]) ∧ MkAt w' g (D.length + 1) (clF (D.map PD.p) f D.length) ∧ Kept (fun k => k = g) w w' := by
  have HAT := hide hat
  have HB := hide hB
  have HG := hide hg
  have HM := hide hm
  clear hat hB hg hm
  go_enter Try.func63, Try.ntmps63
  go_wp2
  go_loopw [4] (fun x wr => ∃ k : Nat, k ≤ D.length ∧ x = .int .i64 k ∧ Hid (MkAt wr g (D.length + 1) (clF (D.map PD.p) f k)) ∧ Hid (Kept (fun k => k = g) w wr)) (fun x _ => D.length - (RowKit.intOf x).toNat)
  case atStart => exact ⟨0, Nat.zero_le _, rfl, HM, Kept.refl _ _⟩
  case round =>
    obtain ⟨k, hk, rfl, M, K⟩ := hrel
    rename World => wr
    by_cases hlt : k < D.length
    · have hlt' : (k : Int) < (D.length : Int) := by omega
      have h65 : (k : Int) < (D.length : Int) + 1 := by omega
      have h66 : (k : Int) + 1 < (D.length : Int) + 1 := by omega
      rcases HAT.out with h | ⟨b, off, rfl, hb, hc⟩
      · rw [h] at hlt; simp at hlt
      obtain ⟨p0, p1, p2, p3, _⟩ := hc k hlt
      have X : Hid (Below w0.heap.size w0 wr) := HB.out.trans (K.out.below HB.out.size (fun i hi => by rw [hi]; exact HG.out))
      have hbw : b < wr.heap.size := Nat.lt_of_lt_of_le hb X.out.size
      have r0 := (X.out.cell (p := ⟨b, off + k * 4, none⟩) hb).trans p0
      have r1 := (X.out.cell (p := ⟨b, off + k * 4 + 1, none⟩) hb).trans p1
      have r2 := (X.out.cell (p := ⟨b, off + k * 4 + 2, none⟩) hb).trans p2
      have r3 := (X.out.cell (p := ⟨b, off + k * 4 + 3, none⟩) hb).trans p3
      have HY := hide (fun h1 h2 => clF_yes (D := D) (f := f) (k := k) hlt h1 h2)
      have HN := hide (fun h1 => clF_no (D := D) (f := f) (k := k) hlt h1)
      have HMN := hide (fun w => star_any D[k].p.kind D[k].p.b D[k].p.no D[k].so D[k].p.set.length D[k].sc w)
      generalize D[k].p.kind = kd at *
      generalize D[k].p.b = kb at *
      generalize D[k].p.no = kn at *
      generalize D[k].p.set.length = kl at *
      generalize D[k].so = ks at *
      generalize D[k].sc = kc at *
      clear hc p0 p1 p2 p3
      cases hf : clF (D.map PD.p) f k k with
      | false =>
        have HE := hide (HN.out (by rw [hf, Bool.false_and]))
        go_wp2_with (go_at_call 55; refine (HMN.out _).mono ?_; rintro e w5 ⟨rfl, x5⟩; have M5 := hide (M.out.kept x5); have X5 := hide x5; obtain ⟨c0, _⟩ := M5.out.cell (show k < D.length + 1 by omega); rw [hf] at c0; clear x5)
        go_roundw
        case rel => exact ⟨k + 1, by omega, by go_num, by unfold Hid; rw [HE.out]; exact M5.out, K.out.trans (Kept.of_below X5.out)⟩
        case measure => simp [RowKit.intOf]; omega
      | true =>
        cases hm : manyK kd with
        | false =>
          have HE := hide (HN.out (by rw [hm, Bool.and_false]))
          rw [hm] at HMN
          go_wp2_with (go_at_call 55; refine (HMN.out _).mono ?_; rintro e w5 ⟨rfl, x5⟩; have M5 := hide (M.out.kept x5); have X5 := hide x5; obtain ⟨c0, _⟩ := M5.out.cell (show k < D.length + 1 by omega); rw [hf] at c0; clear x5)
          go_roundw
          case rel => exact ⟨k + 1, by omega, by go_num, by unfold Hid; rw [HE.out]; exact M5.out, K.out.trans (Kept.of_below X5.out)⟩
          case measure => simp [RowKit.intOf]; omega
        | true =>
          have HE := hide (HY.out hf hm)
          rw [hm] at HMN
          go_wp2_with (go_at_call 55; refine (HMN.out _).mono ?_; rintro e w5 ⟨rfl, x5⟩; have M5 := hide (M.out.kept x5); have X5 := hide x5; obtain ⟨c0, _⟩ := M5.out.cell (show k < D.length + 1 by omega); rw [hf] at c0; obtain ⟨d1, g1⟩ := M5.out.cell (show k + 1 < D.length + 1 by omega); clear x5)
          go_roundw
          case rel => exact ⟨k + 1, by omega, by go_num, by unfold Hid; rw [HE.out]; exact M5.out.set _, (K.out.trans (Kept.of_below X5.out)).trans kept_one⟩
          case measure => simp [RowKit.intOf]; omega
    · have hnl : ¬ (k : Int) < (D.length : Int) := by omega
      have hkl : k = D.length := by omega
      subst hkl
      go_wp2
      refine bodyPost_end (v := .tuple #[]) (results_none rfl _ _ _) rfl ?_
      exact ⟨rfl, M.out, K.out⟩
set_option maxRecDepth 100000 in
set_option maxHeartbeats 2000000 in
theorem refBegin_any (ao : Option Addr) (cap : Nat) (D : List PD) (w : World) (hl : D.length ≤ 64) (hat : PcAt w ao D) :
    Calls Try.prog 38 #[.slice ao D.length cap] w fun e w' => e = .returned (.slice (some ⟨w.heap.size, 0, none⟩) (D.length + 1) (D.length + 1)) ∧ MkAt w' w.heap.size (D.length + 1) (clF (D.map PD.p) (upd (fun _ => false) 0) D.length) ∧ Below w.heap.size w w' := by
  have hmk := make_marks D.length hl
  have M1 : Hid (MkAt (w.alloc (.cells (mkn (D.length + 1) fun _ => false) 4)) w.heap.size (D.length + 1) fun _ => false) := heap_alloc_new _ _
  have X1 := hide (al (Below.refl w.heap.size w) (.cells (mkn (D.length + 1) fun _ => false) 4))
  have h0 : (0 : Int) < (D.length : Int) + 1 := by omega
  obtain ⟨c0, f0⟩ := M1.out.cell (show 0 < D.length + 1 by omega)
  have X2 := hide (al (Below.refl w.heap.size w) (.cells ((mkn (D.length + 1) fun _ => false).setIfInBounds 0 (.bool true)) 4))
  have M2 : Hid (MkAt (w.alloc (.cells ((mkn (D.length + 1) fun _ => false).setIfInBounds 0 (.bool true)) 4)) w.heap.size (D.length + 1) (upd (fun _ => false) 0)) := by
    unfold Hid MkAt
    rw [← mkn_set]
    exact heap_alloc_new _ _
  have HC := hide (refClose_any ao cap w.heap.size D (upd (fun _ => false) 0) w _ hl hat X2.out (Nat.le_refl _) M2.out)
  clear hat
  go_enter Try.func38, Try.ntmps38
  go_wp2_with (go_at_call 63; refine HC.out.mono ?_; rintro e w3 ⟨rfl, m3, k3⟩; have M3 := hide m3; have X3 : Hid (Below w.heap.size w w3) := X2.out.trans (k3.below X2.out.size (fun i hi => by omega)); clear m3 k3)
  go_ret
  exact ⟨rfl, M3.out, X3.out⟩
end Go.Proofs.Ytaiijdnfimclbaa
