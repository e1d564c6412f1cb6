/-
  The document's printed and Print by their contracts. Condition: lists are no longer than a process can hold.
-/
import Derived.Test.YtaiijdnfimclbaaRha
namespace Go.Proofs.Ytaiijdnfimclbaa
open Go.RowKit Go.Lib

theorem cat_s (x y : By) : (⟨x.toArray⟩ : ByteArray) ++ ⟨y.toArray⟩ = ⟨(x ++ y).toArray⟩ := by
  apply ByteArray.ext
  simp
/-- What stands while the document prints a set. -/
structure RxS (w : World) (pc : Array Value) (W : World) : Prop where
  box : W.heap[w.heap.size]? = some (.cells pc 44 (0, 0))
  bel : Below w.heap.size w W
theorem RxS.next {w : World} {pc : Array Value} {W W' : World} (h : RxS w pc W) (x : Below W.heap.size W W') : RxS w pc W' :=
  ⟨(x.block _ (lt_of_block h.box)).trans h.box, bt h.bel x (Nat.le_refl _)⟩
theorem RxS.c3 {w : World} {a b c d : Value} {W : World} (h : RxS w #[a, b, c, d] W) : W.cell? ⟨w.heap.size, 3, none⟩ = some d := by rw [cell_of_row _ _ _ _ _ _ h.box]; rfl
set_option maxRecDepth 100000 in
set_option maxHeartbeats 4000000 in
theorem printed_any (kd kb : Int) (kn : Bool) (ks : Option Addr) (kc : Nat) (L : List Spn) (w : World) (hl : L.length ≤ 4294967296) (hr : ∀ s ∈ L, 32 ≤ s.1 ∧ s.1 ≤ s.2 ∧ s.2 ≤ 126) (hat : SpAt w ks L) :
    Calls Try.prog 34 #[.agg #[.int .i64 kd, .int .i64 kb, .bool kn, .slice ks L.length kc]] w fun e w' => e = .returned (.string ⟨(stT kn L).toArray⟩) ∧ Below w.heap.size w w' := by
  have HES := hide (fun W b (h0 : 32 ≤ b) (h1 : b ≤ 126) => refEscaped_any b [93, 92, 45, 33] W (by decide) h0 h1)
  have HAT := hide hat
  have HR := hide hr
  clear hat hr
  cases kn with
  | false =>
    have S0 : Hid (RxS w #[.int .i64 kd, .int .i64 kb, .bool false, .slice ks L.length kc] (w.alloc (.cells #[.int .i64 kd, .int .i64 kb, .bool false, .slice ks L.length kc] 44))) := ⟨heap_alloc_new _ _, al (Below.refl _ _) _⟩
    go_enter Try.func34, Try.ntmps34
    go_wp2
    go_loopw [3, 4] (fun y x wr => ∃ (k : Nat) (l : By), k ≤ L.length ∧ y = .string ⟨l.toArray⟩ ∧ x = .int .i64 k ∧ Hid (l = [91] ++ (L.take k).flatMap spT) ∧ Hid (RxS w #[.int .i64 kd, .int .i64 kb, .bool false, .slice ks L.length kc] wr)) (fun _ x _ => L.length - (RowKit.intOf x).toNat)
    case atStart => exact ⟨0, [91], Nat.zero_le _, rfl, rfl, by simp [Hid], S0⟩
    case round =>
      obtain ⟨k, l, hk, rfl, rfl, HL, S⟩ := hrel
      rename World => wr
      clear S0
      have hll : l.length ≤ 21474836482 := by
        have h1 := flat_len (L.take k)
        rw [List.length_take] at h1
        rw [HL.out, List.length_append]
        simp only [List.length_cons, List.length_nil]
        omega
      have c3 := S.out.c3
      by_cases hlt : k < L.length
      · have hlt' : (k : Int) < (L.length : Int) := by omega
        obtain ⟨pb, off, rfl, hb, hc⟩ := HAT.out.get hlt
        have hbw : pb < wr.heap.size := Nat.lt_of_lt_of_le hb S.out.bel.size
        obtain ⟨r1, r2⟩ := (hc k hlt).below S.out.bel hb
        have HBD := hide (HR.out _ (List.getElem_mem hlt))
        have hgd : L.getD k (0, 0) = L[k] := by simp [List.getD_eq_getElem?_getD, hlt]
        rw [hgd] at r1 r2
        have HTK : Hid ([91] ++ (L.take (k + 1)).flatMap spT = l ++ spT L[k]) := by
          unfold Hid
          rw [List.take_succ_eq_append_getElem hlt, List.flatMap_append, List.flatMap_singleton, HL.out, List.append_assoc]
        generalize L[k] = t at *
        obtain ⟨lo, hi⟩ := t
        have r1' : wr.cell? ⟨pb, off + k * 2, none⟩ = some (.int .i64 lo) := r1
        have r2' : wr.cell? ⟨pb, off + k * 2 + 1, none⟩ = some (.int .i64 hi) := r2
        have H1 := hide (HES.out wr lo HBD.out.1 (Int.le_trans HBD.out.2.1 HBD.out.2.2))
        have H2 := hide (fun W => HES.out W hi (Int.le_trans HBD.out.1 HBD.out.2.1) HBD.out.2.2)
        have n1 := escL_len lo [93, 92, 45, 33]
        have n2 := escL_len hi [93, 92, 45, 33]
        have HSP : Hid (spT (lo, hi) = escL lo [93, 92, 45, 33] ++ (if hi = lo then [] else 45 :: escL hi [93, 92, 45, 33])) := rfl
        generalize escL lo [93, 92, 45, 33] = E1 at *
        generalize escL hi [93, 92, 45, 33] = E2 at *
        obtain ⟨q1, hq1⟩ : ∃ q, Hid (q = l ++ E1) := ⟨_, rfl⟩
        obtain ⟨q2, hq2⟩ : ∃ q, Hid (q = q1 ++ [45]) := ⟨_, hide rfl⟩
        obtain ⟨q3, hq3⟩ : ∃ q, Hid (q = q2 ++ E2) := ⟨_, rfl⟩
        have e1 : (⟨l.toArray⟩ : ByteArray) ++ ⟨E1.toArray⟩ = ⟨q1.toArray⟩ := by rw [hq1.out]; exact cat_s _ _
        have e2 : (⟨q1.toArray⟩ : ByteArray) ++ ⟨#[45]⟩ = ⟨q2.toArray⟩ := by rw [hq2.out]; exact cat_s _ _
        have e3 : (⟨q2.toArray⟩ : ByteArray) ++ ⟨E2.toArray⟩ = ⟨q3.toArray⟩ := by rw [hq3.out]; exact cat_s _ _
        have m1 : q1.length ≤ 21474836484 := by rw [hq1.out, List.length_append]; omega
        have m2 : q2.length ≤ 21474836485 := by rw [hq2.out, List.length_append]; simp only [List.length_cons, List.length_nil]; omega
        clear r1 r2 hgd hc HL HES
        by_cases hx : hi = lo
        · have HF : Hid (q1 = [91] ++ (L.take (k + 1)).flatMap spT) := by unfold Hid; rw [HTK.out, HSP.out, if_pos hx, List.append_nil, hq1.out]
          subst hx
          clear HTK HSP
          have hd0 : (hi != hi) = false := by simp
          go_wp2_with (go_at_call 33; refine H1.out.mono ?_; rintro e w2 ⟨rfl, x2⟩; have S2 := hide (S.out.next x2); have d1 := (x2.cell (p := ⟨pb, off + k * 2, none⟩) hbw).trans r1'; have d2 := (x2.cell (p := ⟨pb, off + k * 2 + 1, none⟩) hbw).trans r2'; have d3 := S2.out.c3; have hb2 := Nat.lt_of_lt_of_le hbw x2.size; clear x2)
          go_quiet (fail)
          go_wp2
          go_roundw
          case rel => exact ⟨k + 1, q1, by omega, rfl, by go_num, HF, S2.out.next (below_drewN _ _ _)⟩
          case measure => simp [RowKit.intOf]; omega
        · have HF : Hid (q3 = [91] ++ (L.take (k + 1)).flatMap spT) := by unfold Hid; rw [HTK.out, HSP.out, if_neg hx, hq3.out, hq2.out, hq1.out]; simp
          clear HTK HSP
          have hd0 : (hi != lo) = true := by simp [hx]
          go_wp2_with (go_at_call 33; refine H1.out.mono ?_; rintro e w2 ⟨rfl, x2⟩; have S2 := hide (S.out.next x2); have d1 := (x2.cell (p := ⟨pb, off + k * 2, none⟩) hbw).trans r1'; have d2 := (x2.cell (p := ⟨pb, off + k * 2 + 1, none⟩) hbw).trans r2'; have d3 := S2.out.c3; have hb2 := Nat.lt_of_lt_of_le hbw x2.size; clear x2)
          go_quiet (fail)
          go_wp2_with (go_at_call 33; refine (H2.out _).mono ?_; rintro e w3 ⟨rfl, x3⟩; have S3 := hide ((S2.out.next (below_drewN _ _ _)).next x3); clear x3)
          go_roundw
          case rel => exact ⟨k + 1, q3, by omega, rfl, by go_num, HF, S3⟩
          case measure => simp [RowKit.intOf]; omega
      · have hnl : ¬ (k : Int) < (L.length : Int) := by omega
        obtain ⟨q1, hq1⟩ : ∃ q, Hid (q = l ++ [93]) := ⟨_, hide rfl⟩
        have e1 : (⟨l.toArray⟩ : ByteArray) ++ ⟨#[93]⟩ = ⟨q1.toArray⟩ := by rw [hq1.out]; exact cat_s _ _
        have HF : Hid (stT false L = q1) := by unfold Hid; rw [hq1.out, HL.out, List.take_of_length_le (by omega)]; rfl
        go_wp2
        go_ret
        exact ⟨by rw [HF.out]; rfl, S.out.bel⟩
  | true =>
    have S0 : Hid (RxS w #[.int .i64 kd, .int .i64 kb, .bool true, .slice ks L.length kc] (w.alloc (.cells #[.int .i64 kd, .int .i64 kb, .bool true, .slice ks L.length kc] 44))) := ⟨heap_alloc_new _ _, al (Below.refl _ _) _⟩
    go_enter Try.func34, Try.ntmps34
    go_wp2
    go_loopw [3, 4] (fun y x wr => ∃ (k : Nat) (l : By), k ≤ L.length ∧ y = .string ⟨l.toArray⟩ ∧ x = .int .i64 k ∧ Hid (l = [91, 33] ++ (L.take k).flatMap spT) ∧ Hid (RxS w #[.int .i64 kd, .int .i64 kb, .bool true, .slice ks L.length kc] wr)) (fun _ x _ => L.length - (RowKit.intOf x).toNat)
    case atStart => exact ⟨0, [91, 33], Nat.zero_le _, rfl, rfl, by simp [Hid], S0⟩
    case round =>
      obtain ⟨k, l, hk, rfl, rfl, HL, S⟩ := hrel
      rename World => wr
      clear S0
      have hll : l.length ≤ 21474836482 := by
        have h1 := flat_len (L.take k)
        rw [List.length_take] at h1
        rw [HL.out, List.length_append]
        simp only [List.length_cons, List.length_nil]
        omega
      have c3 := S.out.c3
      by_cases hlt : k < L.length
      · have hlt' : (k : Int) < (L.length : Int) := by omega
        obtain ⟨pb, off, rfl, hb, hc⟩ := HAT.out.get hlt
        have hbw : pb < wr.heap.size := Nat.lt_of_lt_of_le hb S.out.bel.size
        obtain ⟨r1, r2⟩ := (hc k hlt).below S.out.bel hb
        have HBD := hide (HR.out _ (List.getElem_mem hlt))
        have hgd : L.getD k (0, 0) = L[k] := by simp [List.getD_eq_getElem?_getD, hlt]
        rw [hgd] at r1 r2
        have HTK : Hid ([91, 33] ++ (L.take (k + 1)).flatMap spT = l ++ spT L[k]) := by
          unfold Hid
          rw [List.take_succ_eq_append_getElem hlt, List.flatMap_append, List.flatMap_singleton, HL.out, List.append_assoc]
        generalize L[k] = t at *
        obtain ⟨lo, hi⟩ := t
        have r1' : wr.cell? ⟨pb, off + k * 2, none⟩ = some (.int .i64 lo) := r1
        have r2' : wr.cell? ⟨pb, off + k * 2 + 1, none⟩ = some (.int .i64 hi) := r2
        have H1 := hide (HES.out wr lo HBD.out.1 (Int.le_trans HBD.out.2.1 HBD.out.2.2))
        have H2 := hide (fun W => HES.out W hi (Int.le_trans HBD.out.1 HBD.out.2.1) HBD.out.2.2)
        have n1 := escL_len lo [93, 92, 45, 33]
        have n2 := escL_len hi [93, 92, 45, 33]
        have HSP : Hid (spT (lo, hi) = escL lo [93, 92, 45, 33] ++ (if hi = lo then [] else 45 :: escL hi [93, 92, 45, 33])) := rfl
        generalize escL lo [93, 92, 45, 33] = E1 at *
        generalize escL hi [93, 92, 45, 33] = E2 at *
        obtain ⟨q1, hq1⟩ : ∃ q, Hid (q = l ++ E1) := ⟨_, rfl⟩
        obtain ⟨q2, hq2⟩ : ∃ q, Hid (q = q1 ++ [45]) := ⟨_, hide rfl⟩
        obtain ⟨q3, hq3⟩ : ∃ q, Hid (q = q2 ++ E2) := ⟨_, rfl⟩
        have e1 : (⟨l.toArray⟩ : ByteArray) ++ ⟨E1.toArray⟩ = ⟨q1.toArray⟩ := by rw [hq1.out]; exact cat_s _ _
        have e2 : (⟨q1.toArray⟩ : ByteArray) ++ ⟨#[45]⟩ = ⟨q2.toArray⟩ := by rw [hq2.out]; exact cat_s _ _
        have e3 : (⟨q2.toArray⟩ : ByteArray) ++ ⟨E2.toArray⟩ = ⟨q3.toArray⟩ := by rw [hq3.out]; exact cat_s _ _
        have m1 : q1.length ≤ 21474836484 := by rw [hq1.out, List.length_append]; omega
        have m2 : q2.length ≤ 21474836485 := by rw [hq2.out, List.length_append]; simp only [List.length_cons, List.length_nil]; omega
        clear r1 r2 hgd hc HL HES
        by_cases hx : hi = lo
        · have HF : Hid (q1 = [91, 33] ++ (L.take (k + 1)).flatMap spT) := by unfold Hid; rw [HTK.out, HSP.out, if_pos hx, List.append_nil, hq1.out]
          subst hx
          clear HTK HSP
          have hd0 : (hi != hi) = false := by simp
          go_wp2_with (go_at_call 33; refine H1.out.mono ?_; rintro e w2 ⟨rfl, x2⟩; have S2 := hide (S.out.next x2); have d1 := (x2.cell (p := ⟨pb, off + k * 2, none⟩) hbw).trans r1'; have d2 := (x2.cell (p := ⟨pb, off + k * 2 + 1, none⟩) hbw).trans r2'; have d3 := S2.out.c3; have hb2 := Nat.lt_of_lt_of_le hbw x2.size; clear x2)
          go_quiet (fail)
          go_wp2
          go_roundw
          case rel => exact ⟨k + 1, q1, by omega, rfl, by go_num, HF, S2.out.next (below_drewN _ _ _)⟩
          case measure => simp [RowKit.intOf]; omega
        · have HF : Hid (q3 = [91, 33] ++ (L.take (k + 1)).flatMap spT) := by unfold Hid; rw [HTK.out, HSP.out, if_neg hx, hq3.out, hq2.out, hq1.out]; simp
          clear HTK HSP
          have hd0 : (hi != lo) = true := by simp [hx]
          go_wp2_with (go_at_call 33; refine H1.out.mono ?_; rintro e w2 ⟨rfl, x2⟩; have S2 := hide (S.out.next x2); have d1 := (x2.cell (p := ⟨pb, off + k * 2, none⟩) hbw).trans r1'; have d2 := (x2.cell (p := ⟨pb, off + k * 2 + 1, none⟩) hbw).trans r2'; have d3 := S2.out.c3; have hb2 := Nat.lt_of_lt_of_le hbw x2.size; clear x2)
          go_quiet (fail)
          go_wp2_with (go_at_call 33; refine (H2.out _).mono ?_; rintro e w3 ⟨rfl, x3⟩; have S3 := hide ((S2.out.next (below_drewN _ _ _)).next x3); clear x3)
          go_roundw
          case rel => exact ⟨k + 1, q3, by omega, rfl, by go_num, HF, S3⟩
          case measure => simp [RowKit.intOf]; omega
      · have hnl : ¬ (k : Int) < (L.length : Int) := by omega
        obtain ⟨q1, hq1⟩ : ∃ q, Hid (q = l ++ [93]) := ⟨_, hide rfl⟩
        have e1 : (⟨l.toArray⟩ : ByteArray) ++ ⟨#[93]⟩ = ⟨q1.toArray⟩ := by rw [hq1.out]; exact cat_s _ _
        have HF : Hid (stT true L = q1) := by unfold Hid; rw [hq1.out, HL.out, List.take_of_length_le (by omega)]; rfl
        go_wp2
        go_ret
        exact ⟨by rw [HF.out]; rfl, S.out.bel⟩
end Go.Proofs.Ytaiijdnfimclbaa
