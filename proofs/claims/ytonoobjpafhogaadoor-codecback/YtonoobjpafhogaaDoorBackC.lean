/-
  puts and gets, by their contracts: an item is laid down as encI says; a Reader answers it as gV, gP say. Conditions: the item's numbers are ints, no text is longer than a process can hold.
-/
import Derived.Test.YtonoobjpafhogaaDoorBackB
import Derived.Test.YtonoobjpafhogaaDoorPair
namespace Go.Proofs.YtonoobjpafhogaaDoor
open Go.RowKit

set_option maxRecDepth 100000 in
set_option maxHeartbeats 2000000 in
theorem puts_any (F : Nat → Prop) (w : World) (b most : Nat) (S : List UInt8) (o : OpD) (ho : OpOk o) (hm : most ≤ 2147483647) (hfit : S.length + o.s.size + 8 ≤ most) (hF : ∀ k, F k → k < w.heap.size) (h : WAt 73 F w b most (errOf 0) S) :
    Calls Tryd.prog 26 #[.pointer (some ⟨b, 0, none⟩), .agg #[.int .i64 o.kind, .int .i64 o.on, .int .i64 o.size, .int .i64 o.n, .string o.s]] w fun e w' =>
      e = .returned (.tuple #[]) ∧ WAt 73 (fun k => F k ∨ w.heap.size ≤ k) w' b most (errOf 0) (S ++ encI o) ∧ Kept F w w' := by
  have hel := encI_length o
  have HP := hide h
  have HF := hide hF
  have HO := hide ho
  have HNF := hide (num_fits ho)
  have HTF := hide (text_fits o)
  have HSZ := szI_bounds o
  have HNB := numI_bounds ho
  have HTL := txL_length o
  have hsz : szI o = 1 + pickI o.on 8 := rfl
  obtain ⟨o1, o2, o3, o4, o5⟩ := ho
  clear h hF
  have hpr : pickI o.kind 3 = 0 ∨ pickI o.kind 3 = 1 ∨ pickI o.kind 3 = 2 := by unfold pickI; omega
  rcases hpr with hp | hp | hp
  · have he : encI o = be (szI o).toNat (numI o).toNat := by rw [encI, if_pos hp]
    have HPT : Hid (putP most 0 S (numS (szI o) (numI o)) (numC (szI o) (numI o)) = (0, S ++ encI o)) := by
      unfold Hid
      rw [HNF.out.1, HNF.out.2, he]
      exact putP_fits (by rw [← he]; omega)
    have hN63 : numI o ≤ 9223372036854775807 := by omega
    clear HNB HTF he hel
    have HN0 : Hid (¬ F w.heap.size) := fun h => Nat.lt_irrefl _ (HF.out _ h)
    generalize hV : numI o = V at HPT hN63 ⊢
    have HV := hide hV
    clear hV
    go_enter Tryd.func26, Tryd.ntmps26
    go_wp2_with fail
    refine (pick_any o.kind 3 o1.1 o1.2 (by decide) (by decide) _).mono ?_
    rintro e w1 ⟨rfl, h1⟩
    subst h1
    rw [hp]
    clear hp
    go_wp2
    have gi : (w.alloc (.cells #[.int .i64 o.kind, .int .i64 o.on, .int .i64 o.size, .int .i64 o.n, .string o.s] 53)).drew.cell? ⟨w.heap.size, 0, none⟩ = some (.int .i64 o.kind) ∧ (w.alloc (.cells #[.int .i64 o.kind, .int .i64 o.on, .int .i64 o.size, .int .i64 o.n, .string o.s] 53)).drew.cell? ⟨w.heap.size, 1, none⟩ = some (.int .i64 o.on) ∧ (w.alloc (.cells #[.int .i64 o.kind, .int .i64 o.on, .int .i64 o.size, .int .i64 o.n, .string o.s] 53)).drew.cell? ⟨w.heap.size, 2, none⟩ = some (.int .i64 o.size) ∧ (w.alloc (.cells #[.int .i64 o.kind, .int .i64 o.on, .int .i64 o.size, .int .i64 o.n, .string o.s] 53)).drew.cell? ⟨w.heap.size, 3, none⟩ = some (.int .i64 o.n) ∧ (w.alloc (.cells #[.int .i64 o.kind, .int .i64 o.on, .int .i64 o.size, .int .i64 o.n, .string o.s] 53)).drew.cell? ⟨w.heap.size, 4, none⟩ = some (.string o.s) := by simp
    have HA : Hid (Below w.heap.size w (w.alloc (.cells #[.int .i64 o.kind, .int .i64 o.on, .int .i64 o.size, .int .i64 o.n, .string o.s] 53)) ∧ w.heap.size < (w.alloc (.cells #[.int .i64 o.kind, .int .i64 o.on, .int .i64 o.size, .int .i64 o.n, .string o.s] 53)).heap.size) := ⟨(Below.refl _ _).alloc (Nat.le_refl _) _, by simp⟩
    generalize w.alloc (.cells #[.int .i64 o.kind, .int .i64 o.on, .int .i64 o.size, .int .i64 o.n, .string o.s] 53) = W0 at gi HA ⊢
    have hq0 : 0 ≤ pickI o.on 8 ∧ pickI o.on 8 ≤ 7 := by unfold pickI; omega
    have HSZ2 : Hid (szI o = 1 + pickI o.on 8) := hsz
    rw [HSZ2.out] at HPT
    generalize hq : pickI o.on 8 = q at hq0 HPT
    have HQ := hide hq
    obtain ⟨hq1, hq2⟩ := hq0
    clear hq HSZ2
    have HWR : Hid (IntKind.i64.wrap (1 + q) = 1 + q) := by unfold Hid; rw [IntKind.wrap_i64]; omega
    generalize hb1 : w.heap.size = b1 at gi HA HN0 ⊢
    have HB1 := hide hb1
    clear hb1 hsz HSZ HTL HNF o1 o3 o4 HF
    go_region_held3 (fun w' => w'.cell? ⟨b1, 0, none⟩ = some (.int .i64 o.kind) ∧ w'.cell? ⟨b1, 1, none⟩ = some (.int .i64 o.on) ∧ w'.cell? ⟨b1, 2, none⟩ = some (.int .i64 o.size) ∧ w'.cell? ⟨b1, 3, none⟩ = some (.int .i64 o.n) ∧ w'.cell? ⟨b1, 4, none⟩ = some (.string o.s)) (first | assumption | (simp [go_sem, *]; done))
      (first | (go_at_call 15; refine (pick_any o.on 8 o2.1 o2.2 (by decide) (by decide) _).mono ?_; rw [HQ.out]; rintro e wx ⟨rfl, hwx⟩; subst hwx) | (go_at_call 45; refine (number_any o HO.out _).mono ?_; rintro e wx ⟨rfl, hb⟩; rw [HV.out]; have g1 : wx.cell? ⟨b1, 0, none⟩ = some (.int .i64 o.kind) ∧ wx.cell? ⟨b1, 1, none⟩ = some (.int .i64 o.on) ∧ wx.cell? ⟨b1, 2, none⟩ = some (.int .i64 o.size) ∧ wx.cell? ⟨b1, 3, none⟩ = some (.int .i64 o.n) ∧ wx.cell? ⟨b1, 4, none⟩ = some (.string o.s) := (by refine ⟨?_, ?_, ?_, ?_, ?_⟩ <;> rw [hb.cell (p := ⟨b1, _, none⟩) HA.out.2] <;> simp [gi]); have HW : Hid (WAt 73 F wx b most (errOf 0) S) := ((HP.out.below (w' := W0.drew) (by rw [HB1.out]; exact HA.out.1.drew)).below hb); have HB : Hid (Below W0.heap.size W0 wx) := (Below.trans ((Below.refl _ _).drew) hb); clear hb) | (go_at_call 32; rw [HWR.out]; refine (wNum_any F _ b most 0 S (1 + q) V hN63 (by omega) (by omega) HW.out).mono ?_; rintro e wy ⟨rfl, x2, y2⟩; have g2 : wy.cell? ⟨b1, 0, none⟩ = some (.int .i64 o.kind) ∧ wy.cell? ⟨b1, 1, none⟩ = some (.int .i64 o.on) ∧ wy.cell? ⟨b1, 2, none⟩ = some (.int .i64 o.size) ∧ wy.cell? ⟨b1, 3, none⟩ = some (.int .i64 o.n) ∧ wy.cell? ⟨b1, 4, none⟩ = some (.string o.s) := (by refine ⟨?_, ?_, ?_, ?_, ?_⟩ <;> rw [y2.cell (p := ⟨b1, _, none⟩) (Nat.lt_of_lt_of_le HA.out.2 HB.out.size) HN0.out] <;> simp [g1]); have X2 := hide x2; have Y2 := hide y2; clear x2 y2))
    clear g1 g2 gi
    go_wp2
    go_end0
    rw [HPT.out] at X2
    have hbl : Below w.heap.size w _ := (show Below w.heap.size w W0 by rw [HB1.out]; exact HA.out.1).trans (HB.out.mono (by rw [HB1.out]; exact Nat.le_of_lt HA.out.2))
    obtain ⟨r1, r2⟩ := two_steps hbl X2.out Y2.out
    exact ⟨rfl, r1, r2⟩
  · have he : encI o = textS (txL o) := by rw [encI, if_neg (by omega), if_pos hp]
    have HPT : Hid (putP most 0 S (textS (txL o)) (textC (txL o)) = (0, S ++ encI o)) := by
      unfold Hid
      rw [HTF.out.1, he]
      exact putP_fits (by rw [← he]; omega)
    have HTS : Hid ((str (txL o)).data.toList = txL o) := str_toList _
    have htsz : (str (txL o)).size ≤ o.s.size := by rw [str_size]; exact HTL.2
    clear HNB HNF HTF he hel HSZ hsz HTL o2 o3 o4
    go_enter Tryd.func26, Tryd.ntmps26
    go_wp2_with fail
    refine (pick_any o.kind 3 o1.1 o1.2 (by decide) (by decide) _).mono ?_
    rintro e w1 ⟨rfl, h1⟩
    subst h1
    rw [hp]
    clear hp
    go_wp2_with fail
    refine (text_any o HO.out _).mono ?_
    rintro e w2 ⟨rfl, h2⟩
    subst h2
    go_wp2_with fail
    refine (wText_any F _ b most 0 S (str (txL o)) (by omega) (by omega) (HP.out.below ((Below.refl _ _).alloc (Nat.le_refl _) _))).mono ?_
    rintro e wy ⟨rfl, x2, y2⟩
    rw [HTS.out, HPT.out] at x2
    have X2 := hide x2; have Y2 := hide y2
    clear x2 y2
    go_wp2
    go_end0
    obtain ⟨r1, r2⟩ := two_steps ((Below.refl _ _).alloc (Nat.le_refl _) _) X2.out Y2.out
    exact ⟨rfl, r1, r2⟩
  · have he : encI o = o.s.data.toList := by rw [encI, if_neg (by omega), if_neg (by omega)]
    have HPT : Hid (putP most 0 S o.s.data.toList 0 = (0, S ++ encI o)) := by
      unfold Hid
      rw [he]
      exact putP_fits (by rw [← he]; omega)
    clear HNB HNF HTF he hel HSZ hsz HTL o2 o3 o4
    go_enter Tryd.func26, Tryd.ntmps26
    go_wp2_with fail
    refine (pick_any o.kind 3 o1.1 o1.2 (by decide) (by decide) _).mono ?_
    rintro e w1 ⟨rfl, h1⟩
    subst h1
    rw [hp]
    clear hp
    go_wp2_with fail
    refine (wRaw_any F _ b most 0 S o.s (by omega) (by omega) (HP.out.below ((Below.refl _ _).alloc (Nat.le_refl _) _))).mono ?_
    rintro e wy ⟨rfl, x2, y2⟩
    rw [HPT.out] at x2
    have X2 := hide x2; have Y2 := hide y2
    clear x2 y2
    go_wp2
    go_end0
    obtain ⟨r1, r2⟩ := two_steps ((Below.refl _ _).alloc (Nat.le_refl _) _) X2.out Y2.out
    exact ⟨rfl, r1, r2⟩
end Go.Proofs.YtonoobjpafhogaaDoor
