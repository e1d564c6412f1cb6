/-
  gets, by its contract: a Reader answers an item as gV, gP say. Conditions: the item's numbers are ints, no text is longer than a process can hold.
-/
import Derived.Test.YtonoobjpafhogaaDoorBackC
namespace Go.Proofs.YtonoobjpafhogaaDoor
open Go.RowKit

set_option maxRecDepth 100000 in
set_option maxHeartbeats 2000000 in
theorem gets_any (w : World) (b : Nat) (E : Int) (R : List UInt8) (o : OpD) (ho : OpOk o) (hR : R.length ≤ 140737488355328) (h : RAt 77 w b R (errOf E)) :
    Calls Tryd.prog 28 #[.pointer (some ⟨b, 0, none⟩), .agg #[.int .i64 o.kind, .int .i64 o.on, .int .i64 o.size, .int .i64 o.n, .string o.s]] w fun e w' =>
      ∃ v : Bool, e = .returned (.bool v) ∧ (gV o E R → v = true) ∧ RAt 77 w' b (gP o E R).2 (errOf (gP o E R).1) ∧ Kept (fun j => j = b) w w' := by
  have HP := hide h
  have HO := hide ho
  have HTL := txL_length o
  have hbl : b < w.heap.size := h.lt
  obtain ⟨o1, o2, o3, o4, o5⟩ := ho
  clear h
  have hpr : pickI o.kind 3 = 0 ∨ pickI o.kind 3 = 1 ∨ pickI o.kind 3 = 2 := by unfold pickI; omega
  have HAl : Hid (Below w.heap.size w (w.alloc (.cells #[.int .i64 o.kind, .int .i64 o.on, .int .i64 o.size, .int .i64 o.n, .string o.s] 53))) := (Below.refl _ _).alloc (Nat.le_refl _) _
  have gi : (w.alloc (.cells #[.int .i64 o.kind, .int .i64 o.on, .int .i64 o.size, .int .i64 o.n, .string o.s] 53)).cell? ⟨w.heap.size, 0, none⟩ = some (.int .i64 o.kind) ∧ (w.alloc (.cells #[.int .i64 o.kind, .int .i64 o.on, .int .i64 o.size, .int .i64 o.n, .string o.s] 53)).cell? ⟨w.heap.size, 1, none⟩ = some (.int .i64 o.on) ∧ (w.alloc (.cells #[.int .i64 o.kind, .int .i64 o.on, .int .i64 o.size, .int .i64 o.n, .string o.s] 53)).cell? ⟨w.heap.size, 2, none⟩ = some (.int .i64 o.size) ∧ (w.alloc (.cells #[.int .i64 o.kind, .int .i64 o.on, .int .i64 o.size, .int .i64 o.n, .string o.s] 53)).cell? ⟨w.heap.size, 3, none⟩ = some (.int .i64 o.n) ∧ (w.alloc (.cells #[.int .i64 o.kind, .int .i64 o.on, .int .i64 o.size, .int .i64 o.n, .string o.s] 53)).cell? ⟨w.heap.size, 4, none⟩ = some (.string o.s) := by simp
  have hal : w.heap.size < (w.alloc (.cells #[.int .i64 o.kind, .int .i64 o.on, .int .i64 o.size, .int .i64 o.n, .string o.s] 53)).heap.size := by simp
  have HAL2 := hide hal
  have HNE : Hid (¬ w.heap.size = b) := by unfold Hid; omega
  clear hal
  rcases hpr with hp | hp | hp
  · have HGV : Hid (gV o E R → ((rNum E R (1 + pickI o.on 8)).1 : Int) = numI o) := by unfold Hid gV; rw [if_pos hp]; exact id
    have HGP : Hid (gP o E R = (rNum E R (1 + pickI o.on 8)).2) := by unfold Hid gP; rw [if_pos hp]; rfl
    have hq0 : 0 ≤ pickI o.on 8 ∧ pickI o.on 8 ≤ 7 := by unfold pickI; omega
    generalize hq : pickI o.on 8 = q at hq0 HGV HGP
    have HQ := hide hq
    obtain ⟨hq1, hq2⟩ := hq0
    have HWR : Hid (IntKind.i64.wrap (1 + q) = 1 + q) := by unfold Hid; rw [IntKind.wrap_i64]; omega
    clear hq HTL o3 o4 gi
    go_enter Tryd.func28, Tryd.ntmps28
    go_wp2_with fail
    refine (pick_any o.kind 3 o1.1 o1.2 (by decide) (by decide) _).mono ?_
    rintro e w1 ⟨rfl, h1⟩
    subst h1
    rw [hp]
    clear hp
    go_wp2_with fail
    refine (pick_any o.on 8 o2.1 o2.2 (by decide) (by decide) _).mono ?_
    rw [HQ.out]
    rintro e w1 ⟨rfl, h1⟩
    subst h1
    go_wp2_with fail
    refine (rNum_any _ b E R (1 + q) hR (HP.out.below HAl.out)).mono ?_
    rintro e wy ⟨rfl, x2, y2⟩
    have g2 : wy.cell? ⟨w.heap.size, 0, none⟩ = some (.int .i64 o.kind) ∧ wy.cell? ⟨w.heap.size, 1, none⟩ = some (.int .i64 o.on) ∧ wy.cell? ⟨w.heap.size, 2, none⟩ = some (.int .i64 o.size) ∧ wy.cell? ⟨w.heap.size, 3, none⟩ = some (.int .i64 o.n) ∧ wy.cell? ⟨w.heap.size, 4, none⟩ = some (.string o.s) := by refine ⟨?_, ?_, ?_, ?_, ?_⟩ <;> rw [y2.cell (p := ⟨w.heap.size, _, none⟩) HAL2.out HNE.out] <;> simp
    have X2 := hide x2; have Y2 := hide y2
    clear x2 y2
    obtain ⟨a1, a2, a3, a4, a5⟩ := g2
    go_wp2_with fail
    refine (number_any o HO.out _).mono ?_
    rintro e wz ⟨rfl, hz⟩
    have HZ := hide hz
    clear hz a1 a2 a3 a4 a5
    go_wp2
    go_ret
    refine ⟨_, rfl, fun hv => by simp [HGV.out hv], ?_, (Kept.of_below HAl.out).trans (Y2.out.trans (Kept.of_below HZ.out))⟩
    rw [HGP.out]
    exact X2.out.below HZ.out
  · have HGV : Hid (gV o E R → (rText E R (moreI o)).1 = txL o) := by unfold Hid gV; rw [if_neg (by omega), if_pos hp]; exact id
    have HGP : Hid (gP o E R = (rText E R (moreI o)).2) := by unfold Hid gP; rw [if_neg (by omega), if_pos hp]
    have hq0 : 0 ≤ pickI o.n 70000 ∧ pickI o.n 70000 ≤ 69999 := by unfold pickI; omega
    have hms : moreI o = ((str (txL o)).size : Int) + pickI o.n 70000 := by rw [str_size]; rfl
    have hts : (str (txL o)).size ≤ 65535 := by rw [str_size]; exact HTL.1
    rw [hms] at HGV HGP
    generalize hq : pickI o.n 70000 = q at hq0 HGV HGP
    generalize htx : str (txL o) = T at hts HGV HGP
    have HTX := hide htx
    have HQ := hide hq
    obtain ⟨hq1, hq2⟩ := hq0
    have HWR : Hid (IntKind.i64.wrap ((T.size : Int) + q) = (T.size : Int) + q) := by unfold Hid; rw [IntKind.wrap_i64]; omega
    have HAD : Hid (Below w.heap.size w (w.alloc (.cells #[.int .i64 o.kind, .int .i64 o.on, .int .i64 o.size, .int .i64 o.n, .string o.s] 53)).drew) := HAl.out.drew
    have HAD2 : Hid (w.heap.size < (w.alloc (.cells #[.int .i64 o.kind, .int .i64 o.on, .int .i64 o.size, .int .i64 o.n, .string o.s] 53)).drew.heap.size) := HAL2.out
    have gd : (w.alloc (.cells #[.int .i64 o.kind, .int .i64 o.on, .int .i64 o.size, .int .i64 o.n, .string o.s] 53)).drew.cell? ⟨w.heap.size, 0, none⟩ = some (.int .i64 o.kind) ∧ (w.alloc (.cells #[.int .i64 o.kind, .int .i64 o.on, .int .i64 o.size, .int .i64 o.n, .string o.s] 53)).drew.cell? ⟨w.heap.size, 1, none⟩ = some (.int .i64 o.on) ∧ (w.alloc (.cells #[.int .i64 o.kind, .int .i64 o.on, .int .i64 o.size, .int .i64 o.n, .string o.s] 53)).drew.cell? ⟨w.heap.size, 2, none⟩ = some (.int .i64 o.size) ∧ (w.alloc (.cells #[.int .i64 o.kind, .int .i64 o.on, .int .i64 o.size, .int .i64 o.n, .string o.s] 53)).drew.cell? ⟨w.heap.size, 3, none⟩ = some (.int .i64 o.n) ∧ (w.alloc (.cells #[.int .i64 o.kind, .int .i64 o.on, .int .i64 o.size, .int .i64 o.n, .string o.s] 53)).drew.cell? ⟨w.heap.size, 4, none⟩ = some (.string o.s) := gi
    clear hq HTL o2 o3 gi hms htx
    go_enter Tryd.func28, Tryd.ntmps28
    go_wp2_with fail
    refine (pick_any o.kind 3 o1.1 o1.2 (by decide) (by decide) _).mono ?_
    rintro e w1 ⟨rfl, h1⟩
    subst h1
    rw [hp]
    clear hp
    go_wp2
    go_region_held3 (fun w' => w'.cell? ⟨w.heap.size, 0, none⟩ = some (.int .i64 o.kind) ∧ w'.cell? ⟨w.heap.size, 1, none⟩ = some (.int .i64 o.on) ∧ w'.cell? ⟨w.heap.size, 2, none⟩ = some (.int .i64 o.size) ∧ w'.cell? ⟨w.heap.size, 3, none⟩ = some (.int .i64 o.n) ∧ w'.cell? ⟨w.heap.size, 4, none⟩ = some (.string o.s)) (first | assumption | (simp [go_sem, *]; done))
      (first | (go_at_call 46; refine (text_any o HO.out _).mono ?_; rw [HTX.out]; rintro e wx ⟨rfl, hwx⟩; subst hwx) | (go_at_call 15; refine (pick_any o.n 70000 o4.1 o4.2 (by decide) (by decide) _).mono ?_; rw [HQ.out]; rintro e wx ⟨rfl, hwx⟩; subst hwx) | (go_at_call 35; rw [HWR.out]; refine (rText_any _ b E R ((T.size : Int) + q) hR (HP.out.below HAD.out)).mono ?_; rintro e wy ⟨rfl, x2, y2⟩; have g2 : wy.cell? ⟨w.heap.size, 0, none⟩ = some (.int .i64 o.kind) ∧ wy.cell? ⟨w.heap.size, 1, none⟩ = some (.int .i64 o.on) ∧ wy.cell? ⟨w.heap.size, 2, none⟩ = some (.int .i64 o.size) ∧ wy.cell? ⟨w.heap.size, 3, none⟩ = some (.int .i64 o.n) ∧ wy.cell? ⟨w.heap.size, 4, none⟩ = some (.string o.s) := (by refine ⟨?_, ?_, ?_, ?_, ?_⟩ <;> rw [y2.cell (p := ⟨w.heap.size, _, none⟩) HAD2.out HNE.out] <;> simp); have X2 := hide x2; have Y2 := hide y2; clear x2 y2))
    obtain ⟨a1, a2, a3, a4, a5⟩ := g2
    clear gd
    go_wp2_with fail
    refine (text_any o HO.out _).mono ?_
    rw [HTX.out]
    rintro e wz ⟨rfl, hz⟩
    subst hz
    clear a1 a2 a3 a4 a5
    go_wp2
    go_ret
    refine ⟨_, rfl, fun hv => by rw [HGV.out hv, HTX.out]; simp, ?_, (Kept.of_below HAD.out).trans Y2.out⟩
    rw [HGP.out]
    exact X2.out
  · have HGV : Hid (gV o E R → (rRaw E R o.s.size).1 = o.s.data.toList) := by unfold Hid gV; rw [if_neg (by omega), if_neg (by omega)]; exact id
    have HGP : Hid (gP o E R = (rRaw E R o.s.size).2) := by unfold Hid gP; rw [if_neg (by omega), if_neg (by omega)]
    clear HTL o2 o3 o4 gi
    go_enter Tryd.func28, Tryd.ntmps28
    go_wp2_with fail
    refine (pick_any o.kind 3 o1.1 o1.2 (by decide) (by decide) _).mono ?_
    rintro e w1 ⟨rfl, h1⟩
    subst h1
    rw [hp]
    clear hp
    go_wp2_with fail
    refine (rRaw_any _ b E R (o.s.size : Int) hR (HP.out.below HAl.out)).mono ?_
    rintro e wy ⟨rfl, x2, y2⟩
    have g2 : wy.cell? ⟨w.heap.size, 0, none⟩ = some (.int .i64 o.kind) ∧ wy.cell? ⟨w.heap.size, 1, none⟩ = some (.int .i64 o.on) ∧ wy.cell? ⟨w.heap.size, 2, none⟩ = some (.int .i64 o.size) ∧ wy.cell? ⟨w.heap.size, 3, none⟩ = some (.int .i64 o.n) ∧ wy.cell? ⟨w.heap.size, 4, none⟩ = some (.string o.s) := by refine ⟨?_, ?_, ?_, ?_, ?_⟩ <;> rw [y2.cell (p := ⟨w.heap.size, _, none⟩) HAL2.out HNE.out] <;> simp
    have X2 := hide x2; have Y2 := hide y2
    clear x2 y2
    obtain ⟨a1, a2, a3, a4, a5⟩ := g2
    go_wp2
    go_ret
    refine ⟨_, rfl, fun hv => by rw [HGV.out hv, str_of]; simp, ?_, (Kept.of_below HAl.out).trans Y2.out⟩
    rw [HGP.out]
    exact X2.out
end Go.Proofs.YtonoobjpafhogaaDoor
