/-
  looks by its contract: a step that makes nothing: Eval, Path, Nodes, Back. Condition: lists no longer than a process can hold.
-/
import Derived.Test.YtaafeflbanoncaaP48
import Derived.Test.YtaafeflbanoncaaP37
namespace Go.Proofs.Ytaafeflbanoncaa
open Go.RowKit Go.Lib Go.Maps

theorem Try.size3' : (Try.prog.info? 3).map (·.size) = some 1 := by
  obtain ⟨i0, hi, hz0, hz1, hz2⟩ := info_parts Try.info3
  rw [hi]; simp [hz1]
theorem ZAt.cellsX {w : World} {ad : Addr} {L : List Int} (h : ZAt w (some ad) L) : ∀ j v, (zC L)[j]? = some v → w.cell? (ad.add j) = some v := fun j v hv => by
  have hj : j < L.length := by
    rcases Nat.lt_or_ge j L.length with h | h
    · exact h
    · rw [List.getElem?_eq_none (by rw [zC_length]; exact h)] at hv; cases hv
  obtain ⟨b, off, e, _, g⟩ := h.get hj
  injection e with e
  subst e
  rw [zC_get L hj] at hv
  injection hv with hv
  subst hv
  rw [addr_add]
  exact g
theorem RwZ.front {w : World} {b : Nat} {L T : List Int} (h : RwZ w b (L ++ T)) : ZAt w (some ⟨b, 0, none⟩) L := .inr ⟨b, 0, rfl, h.lt, fun i hi => by
  rw [Nat.zero_add, h.cell (by rw [List.length_append]; omega), List.getD_eq_getElem?_getD, List.getElem?_append_left hi, ← List.getD_eq_getElem?_getD]⟩
section
variable {w : World} {a x wb B : Nat} {S : List Int} {M : Int} {N : List Nd} {P Q : Nat → Prop} {lv : Value} {D : List LD} {X : Nat → List Value}
set_option maxRecDepth 100000 in
set_option maxHeartbeats 8000000 in
theorem looks_eval {zn : Bool} {zf zg zh zl zc : Int} {iv : Value} {ca : Option Addr} {cc : Nat} {CS : List Int} (h : SD w a x S M N N P Q) (hb : WBk w wb a x lv) (hca : ZAt w ca CS) (hcl : CS.length ≤ 16000000) :
    Calls Try.prog 11 #[.pointer (some ⟨wb, 0, none⟩), .agg #[.bool zn, .int .i64 7, .int .i64 zf, .int .i64 zg, .int .i64 zh, .int .i64 zl, .int .i64 zc, iv, .slice ca CS.length cc]] w fun e w' => e = .returned (.bool true) ∧ Below w.heap.size w w' := by
  have y1 : Below w.heap.size w (w.alloc (.cells #[.bool zn, .int .i64 7, .int .i64 zf, .int .i64 zg, .int .i64 zh, .int .i64 zl, .int .i64 zc, iv, .slice ca CS.length cc] 38)) := al (Below.refl _ _) _
  have bx1 : Bx (w.alloc (.cells #[.bool zn, .int .i64 7, .int .i64 zf, .int .i64 zg, .int .i64 zh, .int .i64 zl, .int .i64 zc, iv, .slice ca CS.length cc] 38)) w.heap.size zn 7 zf zg zh zl zc iv (.slice ca CS.length cc) := heap_alloc_new w _
  have B1 := hide bx1
  have Y1 := hide y1
  have HSD := hide h
  have HWB := hide hb
  have CEL : Hid (∀ W, Below w.heap.size w W → W.cell? ⟨wb, 0, none⟩ = some (.pointer (some ⟨a, 0, none⟩)) ∧ W.cell? ⟨wb, 1, none⟩ = some (.pointer (some ⟨x, 0, none⟩))) := fun W y => by
    have b := (show WBk W wb a x lv from (y.block _ (lt_of_block hb)).trans hb).cells
    exact ⟨b.1, b.2.1⟩
  have OB : Hid (∃ ob, ob = w.heap.size) := ⟨_, rfl⟩
  have HCA := hide hca
  have hmk := make_ints (CS.length + 1) ((CS.length : Int) + 1) (by omega) (by omega)
  have hwr : IntKind.i64.wrap ((CS.length : Int) + 1) = (CS.length : Int) + 1 := by simp [IntKind.wrap, IntKind.bits, IntKind.signed]; omega
  clear h hb y1 bx1 hca
  go_enter Try.func11, Try.ntmps11
  go_upto_region 1 with fail
  generalize w.alloc (.cells #[.bool zn, .int .i64 7, .int .i64 zf, .int .i64 zg, .int .i64 zh, .int .i64 zl, .int .i64 zc, iv, .slice ca CS.length cc] 38) = w1 at *
  obtain ⟨ob, hob⟩ := OB.out
  rw [← hob] at B1
  try rw [← hob]
  have HOBS : Hid (w.heap.size ≤ ob) := by rw [hob]; exact Nat.le_refl _
  clear hob OB
  obtain ⟨o0, o1, o2, o3, o4, o5, o6, o7, o8⟩ := B1.out.cells
  go_upto_region 4 with fail
  clear hmk hwr o0 o1 o2 o3 o4 o5 o6 o7 o8
  have y2 : Below w1.heap.size w1 (w1.alloc (.cells (zC (List.replicate (CS.length + 1) 0)).toArray 3)) := al (Below.refl _ _) _
  have R2 := hide (RwZ.made w1 (List.replicate (CS.length + 1) 0))
  have Y2 := hide (bt Y1.out y2 (Nat.le_refl _))
  have B2 := hide (B1.out.below y2)
  have NB : Hid (∃ nb, nb = w1.heap.size ∧ w.heap.size ≤ nb ∧ ob < nb) := ⟨_, rfl, Y1.out.size, lt_of_block B1.out⟩
  clear y2
  generalize w1.alloc (.cells (zC (List.replicate (CS.length + 1) 0)).toArray 3) = w2 at *
  obtain ⟨nb, hnb, hnw, hno⟩ := NB.out
  rw [← hnb] at R2
  try rw [← hnb]
  have HNW := hide hnw
  have HNO := hide hno
  clear hnb hnw hno NB B1 Y1 w1
  obtain ⟨o0, o1, o2, o3, o4, o5, o6, o7, o8⟩ := B2.out.cells
  have I2 := hide (HCA.out.below Y2.out)
  have hcur : zC CS ++ ((zC (List.replicate (CS.length + 1) 0)).toArray.toList).drop (zC CS).length = zC (CS ++ [0]) := by
    rw [zC_length]
    simp [zC]
  go_upto_region 5 with (refine wpList_copy_wide rfl (.tmp 36) (.tmp 38) 22 22 rfl 3 1 Try.underlying22 Try.size3' nb (CS.length + 1) (CS.length + 1) ca CS.length cc rfl rfl _ 3 R2.out (zC CS) (by rw [zC_length, Nat.mul_one]) (by omega) (fun e => by rcases I2.out with h | ⟨b, off, e2, _⟩; (rw [h]; rfl); (rw [e] at e2; cases e2)) (fun ad e => by subst e; exact I2.out.cellsX) (by simp [zC]) (zC_one CS) ?_; rw [hcur])
  clear o0 o1 o2 o3 o4 o5 o6 o7 o8 hcur I2
  have KR : Hid (Kept (fun b => b = nb) w2 (w2.setRow nb (zC (CS ++ [0])).toArray)) := kept_setRow w2 nb _
  have R3 : Hid (RwZ (w2.setRow nb (zC (CS ++ [0])).toArray) nb (CS ++ [0])) := setRow_heap w2 nb _ _ 3 _ R2.out
  have B3 := hide (B2.out.kept KR.out (fun e => by have := HNO.out; omega))
  have Y3 := hide (Y2.out.trans (KR.out.below Y2.out.size (fun i hi => by have := HNW.out; omega)))
  generalize w2.setRow nb (zC (CS ++ [0])).toArray = w3 at *
  clear B2 Y2 R2 KR HNO
  have R4 : Hid (RwZ w3.drew nb (CS ++ [0])) := R3.out
  have B4 : Hid (Bx w3.drew ob zn 7 zf zg zh zl zc iv (.slice ca CS.length cc)) := B3.out
  have Y4 : Hid (Below w.heap.size w w3.drew) := Y3.out.drew
  have hle2 : (CS.length : Int) ≤ (CS.length : Int) + 1 := by omega
  have hle3 : CS.length ≤ CS.length + 1 := by omega
  refine wp_unt (S := fun V => V.cell? ⟨wb, 0, none⟩ = some (.pointer (some ⟨a, 0, none⟩)) ∧ V.cell? ⟨ob, 2, none⟩ = some (.int .i64 zf) ∧ V.cell? ⟨ob, 8, none⟩ = some (.slice ca CS.length cc)) 16 (by kernel_rfl) ?_
  generalize w3.drew = w4 at *
  clear R3 B3 Y3
  have HS4 : Hid (w4.cell? ⟨wb, 0, none⟩ = some (.pointer (some ⟨a, 0, none⟩)) ∧ w4.cell? ⟨ob, 2, none⟩ = some (.int .i64 zf) ∧ w4.cell? ⟨ob, 8, none⟩ = some (.slice ca CS.length cc)) := ⟨(CEL.out _ Y4.out).1, B4.out.cells.2.2.1, B4.out.cells.2.2.2.2.2.2.2.2⟩
  have EV := hide (eval_any (f := zf) (cap := CS.length + 1) (HSD.out.below Y4.out).ca R4.out.front)
  refine UntH.take (i := 0) (some 41) rfl rfl (by kernel_rfl) (by kernel_rfl) (by kernel_rfl) (by kernel_rfl) (fun _ _ _ _ h => h) (by rfl) HS4.out ?_
  apply Exists.intro
  refine ⟨fun w' hw' => ?_, ?_⟩
  · (obtain ⟨q0, q1, q2⟩ := hw')
    go_simp
    first | done | rfl
  try simp only [Act.put, List.setIfInBounds_toArray, List.set_cons_zero, List.set_cons_succ]
  refine UntH.take (i := 1) (some 42) rfl rfl (by kernel_rfl) (by kernel_rfl) (by kernel_rfl) (by kernel_rfl) (fun _ _ _ _ h => h) (by rfl) HS4.out ?_
  apply Exists.intro
  refine ⟨fun w' hw' => ?_, ?_⟩
  · (obtain ⟨q0, q1, q2⟩ := hw')
    go_simp
    first | done | rfl
  try simp only [Act.put, List.setIfInBounds_toArray, List.set_cons_zero, List.set_cons_succ]
  refine UntH.take (i := 2) (some 43) rfl rfl (by kernel_rfl) (by kernel_rfl) (by kernel_rfl) (by kernel_rfl) (fun _ _ _ _ h => h) (by rfl) HS4.out ?_
  apply Exists.intro
  refine ⟨fun w' hw' => ?_, ?_⟩
  · (obtain ⟨q0, q1, q2⟩ := hw')
    go_simp
    first | done | rfl
  try simp only [Act.put, List.setIfInBounds_toArray, List.set_cons_zero, List.set_cons_succ]
  refine UntH.take (i := 3) (some 44) rfl rfl (by kernel_rfl) (by kernel_rfl) (by kernel_rfl) (by kernel_rfl) (fun _ _ _ _ h => h) (by rfl) HS4.out ?_
  apply Exists.intro
  refine ⟨fun w' hw' => ?_, ?_⟩
  · (obtain ⟨q0, q1, q2⟩ := hw')
    go_simp
    first | done | rfl
  try simp only [Act.put, List.setIfInBounds_toArray, List.set_cons_zero, List.set_cons_succ]
  refine UntH.take (i := 4) (some 45) rfl rfl (by kernel_rfl) (by kernel_rfl) (by kernel_rfl) (by kernel_rfl) (fun _ _ _ _ h => h) (by rfl) HS4.out ?_
  apply Exists.intro
  refine ⟨fun w' hw' => ?_, ?_⟩
  · (obtain ⟨q0, q1, q2⟩ := hw')
    go_simp
    first | done | rfl
  try simp only [Act.put, List.setIfInBounds_toArray, List.set_cons_zero, List.set_cons_succ]
  refine UntH.take (i := 5) (some 46) rfl rfl (by kernel_rfl) (by kernel_rfl) (by kernel_rfl) (by kernel_rfl) (fun _ _ _ _ h => h) (by rfl) HS4.out ?_
  apply Exists.intro
  refine ⟨fun w' hw' => ?_, ?_⟩
  · (obtain ⟨q0, q1, q2⟩ := hw')
    go_simp
    first | done | rfl
  try simp only [Act.put, List.setIfInBounds_toArray, List.set_cons_zero, List.set_cons_succ]
  refine UntH.take (i := 6) (some 47) rfl rfl (by kernel_rfl) (by kernel_rfl) (by kernel_rfl) (by kernel_rfl) (fun _ _ _ _ h => h) (by rfl) HS4.out ?_
  apply Exists.intro
  refine ⟨fun w' hw' => ?_, ?_⟩
  · (obtain ⟨q0, q1, q2⟩ := hw')
    go_simp
    first | done | rfl
  try simp only [Act.put, List.setIfInBounds_toArray, List.set_cons_zero, List.set_cons_succ]
  refine UntH.take (i := 7) (some 48) rfl rfl (by kernel_rfl) (by kernel_rfl) (by kernel_rfl) (by kernel_rfl) (fun _ _ _ _ h => h) (by rfl) HS4.out ?_
  apply Exists.intro
  refine ⟨fun w' hw' => ?_, ?_⟩
  · (obtain ⟨q0, q1, q2⟩ := hw')
    go_simp
    first | done | rfl
  try simp only [Act.put, List.setIfInBounds_toArray, List.set_cons_zero, List.set_cons_succ]
  refine UntH.take (i := 8) (some 49) rfl rfl (by kernel_rfl) (by kernel_rfl) (by kernel_rfl) (by kernel_rfl) (fun _ _ _ _ h => h) (by rfl) HS4.out ?_
  apply Exists.intro
  refine ⟨fun w' hw' => ?_, ?_⟩
  · (obtain ⟨q0, q1, q2⟩ := hw')
    go_simp
    first | done | rfl
  try simp only [Act.put, List.setIfInBounds_toArray, List.set_cons_zero, List.set_cons_succ]
  refine UntH.take (i := 9) (some 50) rfl rfl (by kernel_rfl) (by kernel_rfl) (by kernel_rfl) (by kernel_rfl) (fun _ _ _ _ h => h) (by rfl) HS4.out ?_
  apply Exists.intro
  refine ⟨fun w' hw' => ?_, ?_⟩
  · (obtain ⟨q0, q1, q2⟩ := hw')
    go_simp
    first | done | rfl
  try simp only [Act.put, List.setIfInBounds_toArray, List.set_cons_zero, List.set_cons_succ]
  refine UntH.take (i := 10) (some 51) rfl rfl (by kernel_rfl) (by kernel_rfl) (by kernel_rfl) (by kernel_rfl) (fun _ _ _ _ h => h) (by rfl) HS4.out ?_
  apply Exists.intro
  refine ⟨fun w' hw' => ?_, ?_⟩
  · (obtain ⟨q0, q1, q2⟩ := hw')
    go_simp
    first | done | rfl
  try simp only [Act.put, List.setIfInBounds_toArray, List.set_cons_zero, List.set_cons_succ]
  refine UntH.step (i := 11) (by kernel_rfl) rfl (fun K hK => ?_)
  go_simp
  refine EV.out.mono ?_
  rintro e w5 ⟨rfl, x5⟩
  have X5 := hide x5
  clear x5
  have Y5 := hide (bt Y4.out X5.out (Nat.le_refl _))
  have B5 := hide (B4.out.below X5.out)
  have R5 := hide (R4.out.below X5.out)
  have HS5 : Hid (w5.cell? ⟨wb, 0, none⟩ = some (.pointer (some ⟨a, 0, none⟩)) ∧ w5.cell? ⟨ob, 2, none⟩ = some (.int .i64 zf) ∧ w5.cell? ⟨ob, 8, none⟩ = some (.slice ca CS.length cc)) := ⟨(CEL.out _ Y5.out).1, B5.out.cells.2.2.1, B5.out.cells.2.2.2.2.2.2.2.2⟩
  go_simp
  refine hK _ _ HS5.out ?_
  clear hK K HS4 EV
  refine UntH.take (i := 12) (some 40) rfl rfl (by kernel_rfl) (by kernel_rfl) (by kernel_rfl) (by kernel_rfl) (fun _ _ _ _ h => h) (by rfl) HS5.out ?_
  apply Exists.intro
  refine ⟨fun w' hw' => ?_, ?_⟩
  · (obtain ⟨q0, q1, q2⟩ := hw')
    go_simp
    first | done | rfl
  try simp only [Act.put, List.setIfInBounds_toArray, List.set_cons_zero, List.set_cons_succ]
  refine UntH.take (i := 13) (some 53) rfl rfl (by kernel_rfl) (by kernel_rfl) (by kernel_rfl) (by kernel_rfl) (fun _ _ _ _ h => h) (by rfl) HS5.out ?_
  apply Exists.intro
  refine ⟨fun w' hw' => ?_, ?_⟩
  · (obtain ⟨q0, q1, q2⟩ := hw')
    go_simp
    first | done | rfl
  try simp only [Act.put, List.setIfInBounds_toArray, List.set_cons_zero, List.set_cons_succ]
  refine UntH.take (i := 14) (some 54) rfl rfl (by kernel_rfl) (by kernel_rfl) (by kernel_rfl) (by kernel_rfl) (fun _ _ _ _ h => h) (by rfl) HS5.out ?_
  apply Exists.intro
  refine ⟨fun w' hw' => ?_, ?_⟩
  · (obtain ⟨q0, q1, q2⟩ := hw')
    go_simp
    first | done | rfl
  try simp only [Act.put, List.setIfInBounds_toArray, List.set_cons_zero, List.set_cons_succ]
  refine UntH.take (i := 15) (some 6) rfl rfl (by kernel_rfl) (by kernel_rfl) (by kernel_rfl) (by kernel_rfl) (fun _ _ _ _ h => h) (by rfl) HS5.out ?_
  apply Exists.intro
  refine ⟨fun w' hw' => ?_, ?_⟩
  · (obtain ⟨q0, q1, q2⟩ := hw')
    go_simp
    first | done | rfl
  try simp only [Act.put, List.setIfInBounds_toArray, List.set_cons_zero, List.set_cons_succ]
  refine UntH.last (by kernel_rfl) rfl (by kernel_rfl) (by kernel_rfl) (fun K hK => ?_)
  go_simp
  refine hK _ _ ?_
  clear hK K HS5 B4 Y4 R4 X5
  generalize hev : evG S N zf CS = ev at *
  obtain ⟨ev1, ev2⟩ := ev
  simp only
  go_upto_region 6 with fail
  have R6 : Hid (RwZ w5.drew nb (CS ++ [0])) := R5.out
  have B6 : Hid (Bx w5.drew ob zn 7 zf zg zh zl zc iv (.slice ca CS.length cc)) := B5.out
  have Y6 : Hid (Below w.heap.size w w5.drew) := Y5.out.drew
  refine wp_unt (S := fun V => V.cell? ⟨wb, 1, none⟩ = some (.pointer (some ⟨x, 0, none⟩)) ∧ V.cell? ⟨ob, 2, none⟩ = some (.int .i64 zf) ∧ V.cell? ⟨ob, 8, none⟩ = some (.slice ca CS.length cc)) 13 (by kernel_rfl) ?_
  generalize w5.drew = w6 at *
  clear R5 B5 Y5
  have HS6 : Hid (w6.cell? ⟨wb, 1, none⟩ = some (.pointer (some ⟨x, 0, none⟩)) ∧ w6.cell? ⟨ob, 2, none⟩ = some (.int .i64 zf) ∧ w6.cell? ⟨ob, 8, none⟩ = some (.slice ca CS.length cc)) := ⟨(CEL.out _ Y6.out).2, B6.out.cells.2.2.1, B6.out.cells.2.2.2.2.2.2.2.2⟩
  have EVD := evalD_any (f := zf) (cap := cc) (HSD.out.below Y6.out).ra (HCA.out.below Y6.out) (by omega)
  rw [hev] at EVD
  have EV := hide EVD
  clear EVD hev
  refine UntH.take (i := 0) (some 56) rfl rfl (by kernel_rfl) (by kernel_rfl) (by kernel_rfl) (by kernel_rfl) (fun _ _ _ _ h => h) (by rfl) HS6.out ?_
  apply Exists.intro
  refine ⟨fun w' hw' => ?_, ?_⟩
  · (obtain ⟨q0, q1, q2⟩ := hw')
    go_simp
    first | done | rfl
  try simp only [Act.put, List.setIfInBounds_toArray, List.set_cons_zero, List.set_cons_succ]
  refine UntH.take (i := 1) (some 57) rfl rfl (by kernel_rfl) (by kernel_rfl) (by kernel_rfl) (by kernel_rfl) (fun _ _ _ _ h => h) (by rfl) HS6.out ?_
  apply Exists.intro
  refine ⟨fun w' hw' => ?_, ?_⟩
  · (obtain ⟨q0, q1, q2⟩ := hw')
    go_simp
    first | done | rfl
  try simp only [Act.put, List.setIfInBounds_toArray, List.set_cons_zero, List.set_cons_succ]
  refine UntH.take (i := 2) (some 58) rfl rfl (by kernel_rfl) (by kernel_rfl) (by kernel_rfl) (by kernel_rfl) (fun _ _ _ _ h => h) (by rfl) HS6.out ?_
  apply Exists.intro
  refine ⟨fun w' hw' => ?_, ?_⟩
  · (obtain ⟨q0, q1, q2⟩ := hw')
    go_simp
    first | done | rfl
  try simp only [Act.put, List.setIfInBounds_toArray, List.set_cons_zero, List.set_cons_succ]
  refine UntH.take (i := 3) (some 59) rfl rfl (by kernel_rfl) (by kernel_rfl) (by kernel_rfl) (by kernel_rfl) (fun _ _ _ _ h => h) (by rfl) HS6.out ?_
  apply Exists.intro
  refine ⟨fun w' hw' => ?_, ?_⟩
  · (obtain ⟨q0, q1, q2⟩ := hw')
    go_simp
    first | done | rfl
  try simp only [Act.put, List.setIfInBounds_toArray, List.set_cons_zero, List.set_cons_succ]
  refine UntH.take (i := 4) (some 60) rfl rfl (by kernel_rfl) (by kernel_rfl) (by kernel_rfl) (by kernel_rfl) (fun _ _ _ _ h => h) (by rfl) HS6.out ?_
  apply Exists.intro
  refine ⟨fun w' hw' => ?_, ?_⟩
  · (obtain ⟨q0, q1, q2⟩ := hw')
    go_simp
    first | done | rfl
  try simp only [Act.put, List.setIfInBounds_toArray, List.set_cons_zero, List.set_cons_succ]
  refine UntH.take (i := 5) (some 61) rfl rfl (by kernel_rfl) (by kernel_rfl) (by kernel_rfl) (by kernel_rfl) (fun _ _ _ _ h => h) (by rfl) HS6.out ?_
  apply Exists.intro
  refine ⟨fun w' hw' => ?_, ?_⟩
  · (obtain ⟨q0, q1, q2⟩ := hw')
    go_simp
    first | done | rfl
  try simp only [Act.put, List.setIfInBounds_toArray, List.set_cons_zero, List.set_cons_succ]
  refine UntH.take (i := 6) (some 62) rfl rfl (by kernel_rfl) (by kernel_rfl) (by kernel_rfl) (by kernel_rfl) (fun _ _ _ _ h => h) (by rfl) HS6.out ?_
  apply Exists.intro
  refine ⟨fun w' hw' => ?_, ?_⟩
  · (obtain ⟨q0, q1, q2⟩ := hw')
    go_simp
    first | done | rfl
  try simp only [Act.put, List.setIfInBounds_toArray, List.set_cons_zero, List.set_cons_succ]
  refine UntH.take (i := 7) (some 63) rfl rfl (by kernel_rfl) (by kernel_rfl) (by kernel_rfl) (by kernel_rfl) (fun _ _ _ _ h => h) (by rfl) HS6.out ?_
  apply Exists.intro
  refine ⟨fun w' hw' => ?_, ?_⟩
  · (obtain ⟨q0, q1, q2⟩ := hw')
    go_simp
    first | done | rfl
  try simp only [Act.put, List.setIfInBounds_toArray, List.set_cons_zero, List.set_cons_succ]
  refine UntH.step (i := 8) (by kernel_rfl) rfl (fun K hK => ?_)
  go_simp
  refine EV.out.mono ?_
  rintro e w7 ⟨rfl, x7⟩
  have X7 := hide x7
  clear x7
  have Y7 := hide (bt Y6.out X7.out (Nat.le_refl _))
  have B7 := hide (B6.out.below X7.out)
  have R7 := hide (R6.out.below X7.out)
  have HS7 : Hid (w7.cell? ⟨wb, 1, none⟩ = some (.pointer (some ⟨x, 0, none⟩)) ∧ w7.cell? ⟨ob, 2, none⟩ = some (.int .i64 zf) ∧ w7.cell? ⟨ob, 8, none⟩ = some (.slice ca CS.length cc)) := ⟨(CEL.out _ Y7.out).2, B7.out.cells.2.2.1, B7.out.cells.2.2.2.2.2.2.2.2⟩
  go_simp
  refine hK _ _ HS7.out ?_
  clear hK K HS6 EV
  refine UntH.take (i := 9) (some 55) rfl rfl (by kernel_rfl) (by kernel_rfl) (by kernel_rfl) (by kernel_rfl) (fun _ _ _ _ h => h) (by rfl) HS7.out ?_
  apply Exists.intro
  refine ⟨fun w' hw' => ?_, ?_⟩
  · (obtain ⟨q0, q1, q2⟩ := hw')
    go_simp
    first | done | rfl
  try simp only [Act.put, List.setIfInBounds_toArray, List.set_cons_zero, List.set_cons_succ]
  refine UntH.take (i := 10) (some 65) rfl rfl (by kernel_rfl) (by kernel_rfl) (by kernel_rfl) (by kernel_rfl) (fun _ _ _ _ h => h) (by rfl) HS7.out ?_
  apply Exists.intro
  refine ⟨fun w' hw' => ?_, ?_⟩
  · (obtain ⟨q0, q1, q2⟩ := hw')
    go_simp
    first | done | rfl
  try simp only [Act.put, List.setIfInBounds_toArray, List.set_cons_zero, List.set_cons_succ]
  refine UntH.take (i := 11) (some 66) rfl rfl (by kernel_rfl) (by kernel_rfl) (by kernel_rfl) (by kernel_rfl) (fun _ _ _ _ h => h) (by rfl) HS7.out ?_
  apply Exists.intro
  refine ⟨fun w' hw' => ?_, ?_⟩
  · (obtain ⟨q0, q1, q2⟩ := hw')
    go_simp
    first | done | rfl
  try simp only [Act.put, List.setIfInBounds_toArray, List.set_cons_zero, List.set_cons_succ]
  refine UntH.take (i := 12) (some 8) rfl rfl (by kernel_rfl) (by kernel_rfl) (by kernel_rfl) (by kernel_rfl) (fun _ _ _ _ h => h) (by rfl) HS7.out ?_
  apply Exists.intro
  refine ⟨fun w' hw' => ?_, ?_⟩
  · (obtain ⟨q0, q1, q2⟩ := hw')
    go_simp
    first | done | rfl
  try simp only [Act.put, List.setIfInBounds_toArray, List.set_cons_zero, List.set_cons_succ]
  refine UntH.last (by kernel_rfl) rfl (by kernel_rfl) (by kernel_rfl) (fun K hK => ?_)
  go_simp
  refine hK _ _ ?_
  clear hK K HS7 B6 Y6 R6 X7
  go_upto_region 7 with fail
  have R8 : Hid (RwZ w7.drew nb (CS ++ [0])) := R7.out
  have B8 : Hid (Bx w7.drew ob zn 7 zf zg zh zl zc iv (.slice ca CS.length cc)) := B7.out
  have Y8 : Hid (Below w.heap.size w w7.drew) := Y7.out.drew
  refine wp_unt (S := fun V => V.cell? ⟨ob, 8, none⟩ = some (.slice ca CS.length cc)) 8 (by kernel_rfl) ?_
  generalize w7.drew = w8 at *
  clear R7 B7 Y7
  have HS8 : Hid (w8.cell? ⟨ob, 8, none⟩ = some (.slice ca CS.length cc)) := B8.out.cells.2.2.2.2.2.2.2.2
  have SM := same_any (some ⟨nb, 0, none⟩) ca (CS.length + 1) cc CS CS w8 (by omega) R8.out.front (HCA.out.below Y8.out)
  rw [decide_eq_true rfl] at SM
  have HSM := hide SM
  clear SM
  refine UntH.take (i := 0) (some 67) rfl rfl (by kernel_rfl) (by kernel_rfl) (by kernel_rfl) (by kernel_rfl) (fun _ _ _ _ h => h) (by rfl) HS8.out ?_
  apply Exists.intro
  refine ⟨fun w' hw' => ?_, ?_⟩
  · have q0 := hw'
    go_simp
    first | done | rfl
  try simp only [Act.put, List.setIfInBounds_toArray, List.set_cons_zero, List.set_cons_succ]
  refine UntH.take (i := 1) (some 68) rfl rfl (by kernel_rfl) (by kernel_rfl) (by kernel_rfl) (by kernel_rfl) (fun _ _ _ _ h => h) (by rfl) HS8.out ?_
  apply Exists.intro
  refine ⟨fun w' hw' => ?_, ?_⟩
  · have q0 := hw'
    go_simp
    first | done | rfl
  try simp only [Act.put, List.setIfInBounds_toArray, List.set_cons_zero, List.set_cons_succ]
  refine UntH.take (i := 2) (some 69) rfl rfl (by kernel_rfl) (by kernel_rfl) (by kernel_rfl) (by kernel_rfl) (fun _ _ _ _ h => h) (by rfl) HS8.out ?_
  apply Exists.intro
  refine ⟨fun w' hw' => ?_, ?_⟩
  · have q0 := hw'
    go_simp
    first | done | rfl
  try simp only [Act.put, List.setIfInBounds_toArray, List.set_cons_zero, List.set_cons_succ]
  refine UntH.take (i := 3) (some 70) rfl rfl (by kernel_rfl) (by kernel_rfl) (by kernel_rfl) (by kernel_rfl) (fun _ _ _ _ h => h) (by rfl) HS8.out ?_
  apply Exists.intro
  refine ⟨fun w' hw' => ?_, ?_⟩
  · have q0 := hw'
    go_simp
    first | done | rfl
  try simp only [Act.put, List.setIfInBounds_toArray, List.set_cons_zero, List.set_cons_succ]
  refine UntH.take (i := 4) (some 71) rfl rfl (by kernel_rfl) (by kernel_rfl) (by kernel_rfl) (by kernel_rfl) (fun _ _ _ _ h => h) (by rfl) HS8.out ?_
  apply Exists.intro
  refine ⟨fun w' hw' => ?_, ?_⟩
  · have q0 := hw'
    go_simp
    first | done | rfl
  try simp only [Act.put, List.setIfInBounds_toArray, List.set_cons_zero, List.set_cons_succ]
  refine UntH.take (i := 5) (some 72) rfl rfl (by kernel_rfl) (by kernel_rfl) (by kernel_rfl) (by kernel_rfl) (fun _ _ _ _ h => h) (by rfl) HS8.out ?_
  apply Exists.intro
  refine ⟨fun w' hw' => ?_, ?_⟩
  · have q0 := hw'
    go_simp
    first | done | rfl
  try simp only [Act.put, List.setIfInBounds_toArray, List.set_cons_zero, List.set_cons_succ]
  refine UntH.take (i := 6) (some 73) rfl rfl (by kernel_rfl) (by kernel_rfl) (by kernel_rfl) (by kernel_rfl) (fun _ _ _ _ h => h) (by rfl) HS8.out ?_
  apply Exists.intro
  refine ⟨fun w' hw' => ?_, ?_⟩
  · have q0 := hw'
    go_simp
    first | done | rfl
  try simp only [Act.put, List.setIfInBounds_toArray, List.set_cons_zero, List.set_cons_succ]
  refine UntH.step (i := 7) (by kernel_rfl) rfl (fun K hK => ?_)
  go_simp
  refine HSM.out.mono ?_
  rintro e w9 ⟨rfl, x9⟩
  have X9 := hide x9
  clear x9
  have Y9 := hide (bt Y8.out X9.out (Nat.le_refl _))
  have B9 := hide (B8.out.below X9.out)
  have R9 := hide (R8.out.below X9.out)
  have HS9 : Hid (w9.cell? ⟨ob, 8, none⟩ = some (.slice ca CS.length cc)) := B9.out.cells.2.2.2.2.2.2.2.2
  go_simp
  refine hK _ _ HS9.out ?_
  clear hK K HS8 HSM
  refine UntH.last (by kernel_rfl) rfl (by kernel_rfl) (by kernel_rfl) (fun K hK => ?_)
  go_simp
  refine hK _ _ ?_
  clear hK K B8 Y8 R8 X9
  have q8 := HS9.out
  have q9 := R9.out.cell (k := CS.length) (by simp)
  rw [show (CS ++ [(0 : Int)]).getD CS.length 0 = 0 by rw [List.getD_eq_getElem?_getD, List.getElem?_append_right (Nat.le_refl _), Nat.sub_self]; rfl] at q9
  have hlt : (CS.length : Int) < (CS.length : Int) + 1 := by omega
  have hev1 : (ev1 == ev1) = true := by cases ev1 <;> rfl
  clear R9 B9 HS9
  go_wp2
  go_ret
  exact ⟨rfl, Y9.out⟩
set_option maxRecDepth 100000 in
set_option maxHeartbeats 8000000 in
theorem looks_path {zn : Bool} {zf zg zh zl zc : Int} {iv cv : Value}  (hps : PS w B wb a x S M N P Q lv D X) (hBw : B ≤ w.heap.size) (hDl : D.length ≤ 3000000) :
    Calls Try.prog 11 #[.pointer (some ⟨wb, 0, none⟩), .agg #[.bool zn, .int .i64 8, .int .i64 zf, .int .i64 zg, .int .i64 zh, .int .i64 zl, .int .i64 zc, iv, cv]] w fun e w' => e = .returned (.bool true) ∧ PL B wb a x S M D w N w' := by
  have y1 : Below w.heap.size w (w.alloc (.cells #[.bool zn, .int .i64 8, .int .i64 zf, .int .i64 zg, .int .i64 zh, .int .i64 zl, .int .i64 zc, iv, cv] 38)) := al (Below.refl _ _) _
  have bx1 : Bx (w.alloc (.cells #[.bool zn, .int .i64 8, .int .i64 zf, .int .i64 zg, .int .i64 zh, .int .i64 zl, .int .i64 zc, iv, cv] 38)) w.heap.size zn 8 zf zg zh zl zc iv cv := heap_alloc_new w _
  have B1 := hide bx1
  have Y1 := hide y1
  have HSD := hide hps.sd
  have HWB := hide hps.wd.blk
  have CEL : Hid (∀ W, Below w.heap.size w W → W.cell? ⟨wb, 0, none⟩ = some (.pointer (some ⟨a, 0, none⟩)) ∧ W.cell? ⟨wb, 1, none⟩ = some (.pointer (some ⟨x, 0, none⟩))) := fun W y => by
    have b := (show WBk W wb a x lv from (y.block _ (lt_of_block hps.wd.blk)).trans hps.wd.blk).cells
    exact ⟨b.1, b.2.1⟩
  have OB : Hid (∃ ob, ob = w.heap.size) := ⟨_, rfl⟩
  have HPS := hide hps
  have HBw := hide hBw
  have HDl := hide hDl
  have HOK := hide hps.sd.ca.ok
  clear hps hBw hDl y1 bx1
  go_enter Try.func11, Try.ntmps11
  go_upto_region 1 with fail
  generalize w.alloc (.cells #[.bool zn, .int .i64 8, .int .i64 zf, .int .i64 zg, .int .i64 zh, .int .i64 zl, .int .i64 zc, iv, cv] 38) = w1 at *
  obtain ⟨ob, hob⟩ := OB.out
  rw [← hob] at B1
  try rw [← hob]
  have HOBS : Hid (w.heap.size ≤ ob) := by rw [hob]; exact Nat.le_refl _
  clear hob OB
  obtain ⟨o0, o1, o2, o3, o4, o5, o6, o7, o8⟩ := B1.out.cells
  go_upto_region 10 with fail
  clear o0 o1 o2 o3 o4 o5 o6 o7 o8
  have B2 : Hid (Bx w1.drew ob zn 8 zf zg zh zl zc iv cv) := B1.out
  have Y2 : Hid (Below w.heap.size w w1.drew) := Y1.out.drew
  refine wp_unt (S := fun V => V.cell? ⟨wb, 0, none⟩ = some (.pointer (some ⟨a, 0, none⟩)) ∧ V.cell? ⟨ob, 2, none⟩ = some (.int .i64 zf)) 13 (by kernel_rfl) ?_
  generalize w1.drew = w2 at *
  clear B1 Y1
  have HS2 : Hid (w2.cell? ⟨wb, 0, none⟩ = some (.pointer (some ⟨a, 0, none⟩)) ∧ w2.cell? ⟨ob, 2, none⟩ = some (.int .i64 zf)) := ⟨(CEL.out _ Y2.out).1, B2.out.cells.2.2.1⟩
  have PT := hide (pathC_any (f := zf) (HSD.out.below Y2.out).ca)
  refine UntH.take (i := 0) (some 98) rfl rfl (by kernel_rfl) (by kernel_rfl) (by kernel_rfl) (by kernel_rfl) (fun _ _ _ _ h => h) (by rfl) HS2.out ?_
  apply Exists.intro
  refine ⟨fun w' hw' => ?_, ?_⟩
  · (obtain ⟨q0, q1⟩ := hw')
    go_simp
    first | done | rfl
  try simp only [Act.put, List.setIfInBounds_toArray, List.set_cons_zero, List.set_cons_succ]
  refine UntH.take (i := 1) (some 99) rfl rfl (by kernel_rfl) (by kernel_rfl) (by kernel_rfl) (by kernel_rfl) (fun _ _ _ _ h => h) (by rfl) HS2.out ?_
  apply Exists.intro
  refine ⟨fun w' hw' => ?_, ?_⟩
  · (obtain ⟨q0, q1⟩ := hw')
    go_simp
    first | done | rfl
  try simp only [Act.put, List.setIfInBounds_toArray, List.set_cons_zero, List.set_cons_succ]
  refine UntH.take (i := 2) (some 100) rfl rfl (by kernel_rfl) (by kernel_rfl) (by kernel_rfl) (by kernel_rfl) (fun _ _ _ _ h => h) (by rfl) HS2.out ?_
  apply Exists.intro
  refine ⟨fun w' hw' => ?_, ?_⟩
  · (obtain ⟨q0, q1⟩ := hw')
    go_simp
    first | done | rfl
  try simp only [Act.put, List.setIfInBounds_toArray, List.set_cons_zero, List.set_cons_succ]
  refine UntH.take (i := 3) (some 101) rfl rfl (by kernel_rfl) (by kernel_rfl) (by kernel_rfl) (by kernel_rfl) (fun _ _ _ _ h => h) (by rfl) HS2.out ?_
  apply Exists.intro
  refine ⟨fun w' hw' => ?_, ?_⟩
  · (obtain ⟨q0, q1⟩ := hw')
    go_simp
    first | done | rfl
  try simp only [Act.put, List.setIfInBounds_toArray, List.set_cons_zero, List.set_cons_succ]
  refine UntH.take (i := 4) (some 102) rfl rfl (by kernel_rfl) (by kernel_rfl) (by kernel_rfl) (by kernel_rfl) (fun _ _ _ _ h => h) (by rfl) HS2.out ?_
  apply Exists.intro
  refine ⟨fun w' hw' => ?_, ?_⟩
  · (obtain ⟨q0, q1⟩ := hw')
    go_simp
    first | done | rfl
  try simp only [Act.put, List.setIfInBounds_toArray, List.set_cons_zero, List.set_cons_succ]
  refine UntH.take (i := 5) (some 103) rfl rfl (by kernel_rfl) (by kernel_rfl) (by kernel_rfl) (by kernel_rfl) (fun _ _ _ _ h => h) (by rfl) HS2.out ?_
  apply Exists.intro
  refine ⟨fun w' hw' => ?_, ?_⟩
  · (obtain ⟨q0, q1⟩ := hw')
    go_simp
    first | done | rfl
  try simp only [Act.put, List.setIfInBounds_toArray, List.set_cons_zero, List.set_cons_succ]
  refine UntH.step (i := 6) (by kernel_rfl) rfl (fun K hK => ?_)
  go_simp
  refine PT.out.mono ?_
  rintro e w3 ⟨⟨v, rfl, ow⟩, x3⟩
  obtain ⟨va, vc, hv, _⟩ := own_shape ow
  subst hv
  have X3 := hide x3
  have O3 := hide ow
  clear x3 ow
  have Y3 := hide (bt Y2.out X3.out (Nat.le_refl _))
  have B3 := hide (B2.out.below X3.out)
  have HS3 : Hid (w3.cell? ⟨wb, 0, none⟩ = some (.pointer (some ⟨a, 0, none⟩)) ∧ w3.cell? ⟨ob, 2, none⟩ = some (.int .i64 zf)) := ⟨(CEL.out _ Y3.out).1, B3.out.cells.2.2.1⟩
  have OVX : Hid (∀ W, Below w3.heap.size w3 W → W.ownsRow w.heap.size 3 1 (.slice va (ptG S N zf).1.length vc) (ptG S N zf).1.length (zC (ptG S N zf).1)) := fun W y => by
    have h1 := own_below O3.out y
    refine ⟨h1.1, ?_⟩
    rcases h1.2 with e | ⟨g, cap, cur, e1, e2, r⟩
    · exact .inl e
    · exact .inr ⟨g, cap, cur, e1, Nat.le_trans Y2.out.size e2, r⟩
  have HLN : Hid ((ptG S N zf).1.length ≤ 8194) := Nat.le_trans (ptG_len HOK.out) (by omega)
  have LN12 := hide (ptG_len (f := zf) HOK.out)
  go_simp
  refine hK _ _ HS3.out ?_
  clear hK K HS2 PT
  refine UntH.take (i := 7) (some 97) rfl rfl (by kernel_rfl) (by kernel_rfl) (by kernel_rfl) (by kernel_rfl) (fun _ _ _ _ h => h) (by rfl) HS3.out ?_
  apply Exists.intro
  refine ⟨fun w' hw' => ?_, ?_⟩
  · (obtain ⟨q0, q1⟩ := hw')
    go_simp
    first | done | rfl
  try simp only [Act.put, List.setIfInBounds_toArray, List.set_cons_zero, List.set_cons_succ]
  refine UntH.take (i := 8) (some 105) rfl rfl (by kernel_rfl) (by kernel_rfl) (by kernel_rfl) (by kernel_rfl) (fun _ _ _ _ h => h) (by rfl) HS3.out ?_
  apply Exists.intro
  refine ⟨fun w' hw' => ?_, ?_⟩
  · (obtain ⟨q0, q1⟩ := hw')
    go_simp
    first | done | rfl
  try simp only [Act.put, List.setIfInBounds_toArray, List.set_cons_zero, List.set_cons_succ]
  refine UntH.take (i := 9) (some 106) rfl rfl (by kernel_rfl) (by kernel_rfl) (by kernel_rfl) (by kernel_rfl) (fun _ _ _ _ h => h) (by rfl) HS3.out ?_
  apply Exists.intro
  refine ⟨fun w' hw' => ?_, ?_⟩
  · (obtain ⟨q0, q1⟩ := hw')
    go_simp
    first | done | rfl
  try simp only [Act.put, List.setIfInBounds_toArray, List.set_cons_zero, List.set_cons_succ]
  refine UntH.take (i := 10) (some 107) rfl rfl (by kernel_rfl) (by kernel_rfl) (by kernel_rfl) (by kernel_rfl) (fun _ _ _ _ h => h) (by rfl) HS3.out ?_
  apply Exists.intro
  refine ⟨fun w' hw' => ?_, ?_⟩
  · (obtain ⟨q0, q1⟩ := hw')
    go_simp
    first | done | rfl
  try simp only [Act.put, List.setIfInBounds_toArray, List.set_cons_zero, List.set_cons_succ]
  refine UntH.take (i := 11) (some 11) rfl rfl (by kernel_rfl) (by kernel_rfl) (by kernel_rfl) (by kernel_rfl) (fun _ _ _ _ h => h) (by rfl) HS3.out ?_
  apply Exists.intro
  refine ⟨fun w' hw' => ?_, ?_⟩
  · (obtain ⟨q0, q1⟩ := hw')
    go_simp
    first | done | rfl
  try simp only [Act.put, List.setIfInBounds_toArray, List.set_cons_zero, List.set_cons_succ]
  refine UntH.take (i := 12) (some 12) rfl rfl (by kernel_rfl) (by kernel_rfl) (by kernel_rfl) (by kernel_rfl) (fun _ _ _ _ h => h) (by rfl) HS3.out ?_
  apply Exists.intro
  refine ⟨fun w' hw' => ?_, ?_⟩
  · (obtain ⟨q0, q1⟩ := hw')
    go_simp
    first | done | rfl
  try simp only [Act.put, List.setIfInBounds_toArray, List.set_cons_zero, List.set_cons_succ]
  refine UntH.last (by kernel_rfl) rfl (by kernel_rfl) (by kernel_rfl) (fun K hK => ?_)
  go_simp
  refine hK _ _ ?_
  clear hK K HS3 B2 Y2 X3
  go_upto_region 11 with fail
  have B4 : Hid (Bx w3.drew ob zn 8 zf zg zh zl zc iv cv) := B3.out
  have Y4 : Hid (Below w.heap.size w w3.drew) := Y3.out.drew
  have OV4 := hide (OVX.out w3.drew (Below.refl _ _).drew)
  refine wp_unt (S := fun V => V.cell? ⟨wb, 1, none⟩ = some (.pointer (some ⟨x, 0, none⟩)) ∧ V.cell? ⟨ob, 2, none⟩ = some (.int .i64 zf)) 13 (by kernel_rfl) ?_
  generalize w3.drew = w4 at *
  clear B3 Y3 O3 OVX
  have HS4 : Hid (w4.cell? ⟨wb, 1, none⟩ = some (.pointer (some ⟨x, 0, none⟩)) ∧ w4.cell? ⟨ob, 2, none⟩ = some (.int .i64 zf)) := ⟨(CEL.out _ Y4.out).2, B4.out.cells.2.2.1⟩
  have PT := hide (pathDD_any (f := zf) (HSD.out.below Y4.out).ra)
  generalize ptG S N zf = pg at *
  obtain ⟨L, pb, pe⟩ := pg
  simp only at OV4 HLN LN12 PT ⊢
  refine UntH.take (i := 0) (some 109) rfl rfl (by kernel_rfl) (by kernel_rfl) (by kernel_rfl) (by kernel_rfl) (fun _ _ _ _ h => h) (by rfl) HS4.out ?_
  apply Exists.intro
  refine ⟨fun w' hw' => ?_, ?_⟩
  · (obtain ⟨q0, q1⟩ := hw')
    go_simp
    first | done | rfl
  try simp only [Act.put, List.setIfInBounds_toArray, List.set_cons_zero, List.set_cons_succ]
  refine UntH.take (i := 1) (some 110) rfl rfl (by kernel_rfl) (by kernel_rfl) (by kernel_rfl) (by kernel_rfl) (fun _ _ _ _ h => h) (by rfl) HS4.out ?_
  apply Exists.intro
  refine ⟨fun w' hw' => ?_, ?_⟩
  · (obtain ⟨q0, q1⟩ := hw')
    go_simp
    first | done | rfl
  try simp only [Act.put, List.setIfInBounds_toArray, List.set_cons_zero, List.set_cons_succ]
  refine UntH.take (i := 2) (some 111) rfl rfl (by kernel_rfl) (by kernel_rfl) (by kernel_rfl) (by kernel_rfl) (fun _ _ _ _ h => h) (by rfl) HS4.out ?_
  apply Exists.intro
  refine ⟨fun w' hw' => ?_, ?_⟩
  · (obtain ⟨q0, q1⟩ := hw')
    go_simp
    first | done | rfl
  try simp only [Act.put, List.setIfInBounds_toArray, List.set_cons_zero, List.set_cons_succ]
  refine UntH.take (i := 3) (some 112) rfl rfl (by kernel_rfl) (by kernel_rfl) (by kernel_rfl) (by kernel_rfl) (fun _ _ _ _ h => h) (by rfl) HS4.out ?_
  apply Exists.intro
  refine ⟨fun w' hw' => ?_, ?_⟩
  · (obtain ⟨q0, q1⟩ := hw')
    go_simp
    first | done | rfl
  try simp only [Act.put, List.setIfInBounds_toArray, List.set_cons_zero, List.set_cons_succ]
  refine UntH.take (i := 4) (some 113) rfl rfl (by kernel_rfl) (by kernel_rfl) (by kernel_rfl) (by kernel_rfl) (fun _ _ _ _ h => h) (by rfl) HS4.out ?_
  apply Exists.intro
  refine ⟨fun w' hw' => ?_, ?_⟩
  · (obtain ⟨q0, q1⟩ := hw')
    go_simp
    first | done | rfl
  try simp only [Act.put, List.setIfInBounds_toArray, List.set_cons_zero, List.set_cons_succ]
  refine UntH.take (i := 5) (some 114) rfl rfl (by kernel_rfl) (by kernel_rfl) (by kernel_rfl) (by kernel_rfl) (fun _ _ _ _ h => h) (by rfl) HS4.out ?_
  apply Exists.intro
  refine ⟨fun w' hw' => ?_, ?_⟩
  · (obtain ⟨q0, q1⟩ := hw')
    go_simp
    first | done | rfl
  try simp only [Act.put, List.setIfInBounds_toArray, List.set_cons_zero, List.set_cons_succ]
  refine UntH.step (i := 6) (by kernel_rfl) rfl (fun K hK => ?_)
  go_simp
  refine PT.out.mono ?_
  rintro e w5 ⟨⟨za, zcc, rfl, zt⟩, x5⟩
  have X5 := hide x5
  have Z5 := hide zt
  clear x5 zt
  have Y5 := hide (bt Y4.out X5.out (Nat.le_refl _))
  have B5 := hide (B4.out.below X5.out)
  have OV5 := hide (own_below OV4.out X5.out)
  have HS5 : Hid (w5.cell? ⟨wb, 1, none⟩ = some (.pointer (some ⟨x, 0, none⟩)) ∧ w5.cell? ⟨ob, 2, none⟩ = some (.int .i64 zf)) := ⟨(CEL.out _ Y5.out).2, B5.out.cells.2.2.1⟩
  go_simp
  refine hK _ _ HS5.out ?_
  clear hK K HS4 PT
  refine UntH.take (i := 7) (some 108) rfl rfl (by kernel_rfl) (by kernel_rfl) (by kernel_rfl) (by kernel_rfl) (fun _ _ _ _ h => h) (by rfl) HS5.out ?_
  apply Exists.intro
  refine ⟨fun w' hw' => ?_, ?_⟩
  · (obtain ⟨q0, q1⟩ := hw')
    go_simp
    first | done | rfl
  try simp only [Act.put, List.setIfInBounds_toArray, List.set_cons_zero, List.set_cons_succ]
  refine UntH.take (i := 8) (some 116) rfl rfl (by kernel_rfl) (by kernel_rfl) (by kernel_rfl) (by kernel_rfl) (fun _ _ _ _ h => h) (by rfl) HS5.out ?_
  apply Exists.intro
  refine ⟨fun w' hw' => ?_, ?_⟩
  · (obtain ⟨q0, q1⟩ := hw')
    go_simp
    first | done | rfl
  try simp only [Act.put, List.setIfInBounds_toArray, List.set_cons_zero, List.set_cons_succ]
  refine UntH.take (i := 9) (some 117) rfl rfl (by kernel_rfl) (by kernel_rfl) (by kernel_rfl) (by kernel_rfl) (fun _ _ _ _ h => h) (by rfl) HS5.out ?_
  apply Exists.intro
  refine ⟨fun w' hw' => ?_, ?_⟩
  · (obtain ⟨q0, q1⟩ := hw')
    go_simp
    first | done | rfl
  try simp only [Act.put, List.setIfInBounds_toArray, List.set_cons_zero, List.set_cons_succ]
  refine UntH.take (i := 10) (some 118) rfl rfl (by kernel_rfl) (by kernel_rfl) (by kernel_rfl) (by kernel_rfl) (fun _ _ _ _ h => h) (by rfl) HS5.out ?_
  apply Exists.intro
  refine ⟨fun w' hw' => ?_, ?_⟩
  · (obtain ⟨q0, q1⟩ := hw')
    go_simp
    first | done | rfl
  try simp only [Act.put, List.setIfInBounds_toArray, List.set_cons_zero, List.set_cons_succ]
  refine UntH.take (i := 11) (some 14) rfl rfl (by kernel_rfl) (by kernel_rfl) (by kernel_rfl) (by kernel_rfl) (fun _ _ _ _ h => h) (by rfl) HS5.out ?_
  apply Exists.intro
  refine ⟨fun w' hw' => ?_, ?_⟩
  · (obtain ⟨q0, q1⟩ := hw')
    go_simp
    first | done | rfl
  try simp only [Act.put, List.setIfInBounds_toArray, List.set_cons_zero, List.set_cons_succ]
  refine UntH.take (i := 12) (some 15) rfl rfl (by kernel_rfl) (by kernel_rfl) (by kernel_rfl) (by kernel_rfl) (fun _ _ _ _ h => h) (by rfl) HS5.out ?_
  apply Exists.intro
  refine ⟨fun w' hw' => ?_, ?_⟩
  · (obtain ⟨q0, q1⟩ := hw')
    go_simp
    first | done | rfl
  try simp only [Act.put, List.setIfInBounds_toArray, List.set_cons_zero, List.set_cons_succ]
  refine UntH.last (by kernel_rfl) rfl (by kernel_rfl) (by kernel_rfl) (fun K hK => ?_)
  go_simp
  refine hK _ _ ?_
  clear hK K HS5 B4 Y4 X5 OV4
  have ZA : Hid (ZAt w5 va L) := by
    obtain ⟨ao, cp, e1, at1⟩ := own_zat OV5.out
    injection e1 with e1 _ _
    subst e1
    exact at1
  have SM := same_any va za vc zcc L L w5 (by have := LN12.out; omega) ZA.out Z5.out
  rw [decide_eq_true rfl] at SM
  have HSM := hide SM
  clear SM
  go_upto_region 13 with (go_at_call 28; refine HSM.out.mono ?_; rintro e w6 ⟨rfl, x6⟩; have X6 := hide x6; clear x6)
  clear HSM ZA Z5
  have Y6 := hide (bt Y5.out X6.out (Nat.le_refl _))
  have OVn := hide (own_below OV5.out X6.out)
  clear OV5 Y5 X6 B5
  obtain ⟨i22, hi22, hy0, hy1, hy2⟩ := info_parts Try.info22
  have PSn := hide (HPS.out.below Y6.out)
  obtain ⟨la, lc, hlv, _⟩ := own_shape PSn.out.wd.ls.row
  have HLV := hide hlv
  clear hlv
  have c2 : w6.cell? ⟨wb, 2, none⟩ = some (.slice la D.length lc) := by rw [← HLV.out]; exact PSn.out.wd.blk.cells.2.2
  have ya : Below w6.heap.size w6 (w6.alloc (.cells #[.slice va L.length vc] 22)) := al (Below.refl _ _) _
  have PSa := hide (PSn.out.below ya)
  have OWa : Hid ((w6.alloc (.cells #[.slice va L.length vc] 22)).ownsRow B 22 1 (.slice la D.length lc) D.length (D.map LD.v)) := by rw [← HLV.out]; exact PSa.out.wd.ls.row
  have OV := hide (own_below OVn.out ya)
  have YA := hide (bt Y6.out ya (Nat.le_refl _))
  have YN := hide ya
  have SZa : Hid (B ≤ (w6.alloc (.cells #[.slice va L.length vc] 22)).heap.size) := Nat.le_trans HBw.out YA.out.size
  have PU : Hid (∀ v5 (wz : World), wz.ownsRow B 22 1 v5 (D.length + 1) (D.map LD.v ++ [.slice va L.length vc]) → AppAt (w6.alloc (.cells #[.slice va L.length vc] 22)) wz (.slice la D.length lc) v5 → (∃ X', PS (wz.setCell ⟨wb, 2, none⟩ v5) B wb a x S M N P Q v5 (D ++ [⟨.slice va L.length vc, L.length⟩]) X') ∧ WBk wz wb a x (.slice la D.length lc) ∧ Below B w (wz.setCell ⟨wb, 2, none⟩ v5) ∧ Kept (fun k => lv.ownBlock = some k ∨ k = wb) w6 (wz.setCell ⟨wb, 2, none⟩ v5)) := fun v5 wz h1 h3 => by
    have ka := appK h3
    rw [← HLV.out] at ka ⊢
    have na : ∀ k, v5.ownBlock = some k → lv.ownBlock = some k ∨ (w6.alloc (.cells #[.slice va L.length vc] 22)).heap.size ≤ k := fun k hk => by
      rcases h3 with ⟨g, p1, p2, _⟩ | ⟨_, p2⟩
      · rw [p2] at hk; rw [HLV.out]; exact .inl (p1.trans hk)
      · exact .inr (p2 k hk)
    obtain ⟨X', t1, t2, t3, t4⟩ := PSa.out.push (w0 := w) HBw.out YA.out.size (fun k hk => (HPS.out.wd.lt.2.2 k hk).2) (fun k hk => hk.elim (fun e => HPS.out.sd.ca.plt e) (fun e => HPS.out.sd.ra.plt e)) OV.out HLN.out ka h1 na
    exact ⟨⟨X', t1⟩, t2, (YA.out.mono HBw.out).trans t3, (Kept.of_below YN.out).trans t4⟩
  clear ya
  go_upto_region 14 with (at_builtin; refine wpList_append_view rfl (.tmp 126) (.tmp 128) 33 rfl B 22 i22 (.slice none 0 0) 1 24 Try.underlying33 hi22 hy0 hy1 hy2 rfl (by decide) _ D.length (D.map LD.v) rfl OWa.out ⟨w6.heap.size, 0, none⟩ 1 1 [.slice va L.length vc] rfl rfl (one_new w6 _ _) (by simp [Value.oneCell']) (by decide) (by have := HDl.out; unfold maxLen; omega) (by have := HDl.out; omega) SZa.out ?_; intro v5 w12 h1 h3; obtain ⟨a5, c5, hv5, _⟩ := own_shape h1; subst hv5; obtain ⟨fin, b8, bel, kpt⟩ := PU.out _ w12 h1 h3; have FKK := hide kpt; have FIN := hide fin; have FBL := hide bel; have f8 := frozen_of_row w12 wb 2 _ _ b8; have d8 : w12.cell? ⟨wb, 2, none⟩ = some (.slice la D.length lc) := b8.cells.2.2; clear fin b8 bel kpt h1 h3)
  clear PU OWa c2
  have hpb : (pb == pb) = true := by cases pb <;> rfl
  go_wp2
  go_ret
  obtain ⟨X', ps⟩ := FIN.out
  exact ⟨rfl, P, Q, _, _, X', ps, by simp, FBL.out⟩
set_option maxRecDepth 100000 in
set_option maxHeartbeats 8000000 in
theorem looks_nodes {zn : Bool} {zf zg zh zl zc : Int} {iv cv : Value}  (hps : PS w B wb a x S M N P Q lv D X) (hBw : B ≤ w.heap.size) (hDl : D.length ≤ 3000000) :
    Calls Try.prog 11 #[.pointer (some ⟨wb, 0, none⟩), .agg #[.bool zn, .int .i64 9, .int .i64 zf, .int .i64 zg, .int .i64 zh, .int .i64 zl, .int .i64 zc, iv, cv]] w fun e w' => e = .returned (.bool true) ∧ PL B wb a x S M D w N w' := by
  have y1 : Below w.heap.size w (w.alloc (.cells #[.bool zn, .int .i64 9, .int .i64 zf, .int .i64 zg, .int .i64 zh, .int .i64 zl, .int .i64 zc, iv, cv] 38)) := al (Below.refl _ _) _
  have bx1 : Bx (w.alloc (.cells #[.bool zn, .int .i64 9, .int .i64 zf, .int .i64 zg, .int .i64 zh, .int .i64 zl, .int .i64 zc, iv, cv] 38)) w.heap.size zn 9 zf zg zh zl zc iv cv := heap_alloc_new w _
  have B1 := hide bx1
  have Y1 := hide y1
  have HSD := hide hps.sd
  have HWB := hide hps.wd.blk
  have CEL : Hid (∀ W, Below w.heap.size w W → W.cell? ⟨wb, 0, none⟩ = some (.pointer (some ⟨a, 0, none⟩)) ∧ W.cell? ⟨wb, 1, none⟩ = some (.pointer (some ⟨x, 0, none⟩))) := fun W y => by
    have b := (show WBk W wb a x lv from (y.block _ (lt_of_block hps.wd.blk)).trans hps.wd.blk).cells
    exact ⟨b.1, b.2.1⟩
  have OB : Hid (∃ ob, ob = w.heap.size) := ⟨_, rfl⟩
  have HPS := hide hps
  have HBw := hide hBw
  have HDl := hide hDl
  have HOK := hide hps.sd.ca.ok
  clear hps hBw hDl y1 bx1
  go_enter Try.func11, Try.ntmps11
  go_upto_region 1 with fail
  generalize w.alloc (.cells #[.bool zn, .int .i64 9, .int .i64 zf, .int .i64 zg, .int .i64 zh, .int .i64 zl, .int .i64 zc, iv, cv] 38) = w1 at *
  obtain ⟨ob, hob⟩ := OB.out
  rw [← hob] at B1
  try rw [← hob]
  have HOBS : Hid (w.heap.size ≤ ob) := by rw [hob]; exact Nat.le_refl _
  clear hob OB
  obtain ⟨o0, o1, o2, o3, o4, o5, o6, o7, o8⟩ := B1.out.cells
  go_upto_region 17 with fail
  clear o0 o1 o2 o3 o4 o5 o6 o7 o8
  have y2 : Below w1.heap.size w1 (w1.alloc (.cells #[.int .i64 zf, .int .i64 zg, .int .i64 zh, .int .i64 (-77)] 3)) := al (Below.refl _ _) _
  have R2 : Hid (RwZ (w1.alloc (.cells #[.int .i64 zf, .int .i64 zg, .int .i64 zh, .int .i64 (-77)] 3)) w1.heap.size ([zf, zg, zh] ++ [-77])) := RwZ.made w1 [zf, zg, zh, -77]
  have Y2 := hide (bt Y1.out y2 (Nat.le_refl _))
  have B2 := hide (B1.out.below y2)
  clear y2
  have HNBS : Hid (w.heap.size ≤ w1.heap.size) := Y1.out.size
  generalize w1.alloc (.cells #[.int .i64 zf, .int .i64 zg, .int .i64 zh, .int .i64 (-77)] 3) = w2 at *
  generalize w1.heap.size = nb at *
  clear B1 Y1 w1
  have R3 : Hid (RwZ w2.drew nb ([zf, zg, zh] ++ [-77])) := R2.out
  have B3 : Hid (Bx w2.drew ob zn 9 zf zg zh zl zc iv cv) := B2.out
  have Y3 : Hid (Below w.heap.size w w2.drew) := Y2.out.drew
  refine wp_unt (S := fun V => V.cell? ⟨wb, 0, none⟩ = some (.pointer (some ⟨a, 0, none⟩))) 11 (by kernel_rfl) ?_
  generalize w2.drew = w3 at *
  clear R2 B2 Y2
  have HS3 : Hid (w3.cell? ⟨wb, 0, none⟩ = some (.pointer (some ⟨a, 0, none⟩))) := (CEL.out _ Y3.out).1
  have NDC := (nodesC_any (cap := 4) (A := [zf, zg, zh]) (HSD.out.below Y3.out).ca R3.out.front (by simp)).mono (fun e W h => NdsL.form h)
  have HND : Hid (Calls Try.prog 34 #[.pointer (some ⟨a, 0, none⟩), .slice (some ⟨nb, 0, none⟩) 3 4] w3 fun e w' => (∃ v, e = .returned (.tuple #[v, .int .i64 (ndG N [zf, zg, zh]).2]) ∧ w'.ownsRow w3.heap.size 3 1 v (ndG N [zf, zg, zh]).1.length (zC (ndG N [zf, zg, zh]).1)) ∧ Below w3.heap.size w3 w') := NDC
  clear NDC
  refine UntH.take (i := 0) (some 153) rfl rfl (by kernel_rfl) (by kernel_rfl) (by kernel_rfl) (by kernel_rfl) (fun _ _ _ _ h => h) (by rfl) HS3.out ?_
  apply Exists.intro
  refine ⟨fun w' hw' => ?_, ?_⟩
  · have q0 := hw'
    go_simp
    first | done | rfl
  try simp only [Act.put, List.setIfInBounds_toArray, List.set_cons_zero, List.set_cons_succ]
  refine UntH.take (i := 1) (some 154) rfl rfl (by kernel_rfl) (by kernel_rfl) (by kernel_rfl) (by kernel_rfl) (fun _ _ _ _ h => h) (by rfl) HS3.out ?_
  apply Exists.intro
  refine ⟨fun w' hw' => ?_, ?_⟩
  · have q0 := hw'
    go_simp
    first | done | rfl
  try simp only [Act.put, List.setIfInBounds_toArray, List.set_cons_zero, List.set_cons_succ]
  refine UntH.take (i := 2) (some 155) rfl rfl (by kernel_rfl) (by kernel_rfl) (by kernel_rfl) (by kernel_rfl) (fun _ _ _ _ h => h) (by rfl) HS3.out ?_
  apply Exists.intro
  refine ⟨fun w' hw' => ?_, ?_⟩
  · have q0 := hw'
    go_simp
    first | done | rfl
  try simp only [Act.put, List.setIfInBounds_toArray, List.set_cons_zero, List.set_cons_succ]
  refine UntH.take (i := 3) (some 156) rfl rfl (by kernel_rfl) (by kernel_rfl) (by kernel_rfl) (by kernel_rfl) (fun _ _ _ _ h => h) (by rfl) HS3.out ?_
  apply Exists.intro
  refine ⟨fun w' hw' => ?_, ?_⟩
  · have q0 := hw'
    go_simp
    first | done | rfl
  try simp only [Act.put, List.setIfInBounds_toArray, List.set_cons_zero, List.set_cons_succ]
  refine UntH.take (i := 4) (some 157) rfl rfl (by kernel_rfl) (by kernel_rfl) (by kernel_rfl) (by kernel_rfl) (fun _ _ _ _ h => h) (by rfl) HS3.out ?_
  apply Exists.intro
  refine ⟨fun w' hw' => ?_, ?_⟩
  · have q0 := hw'
    go_simp
    first | done | rfl
  try simp only [Act.put, List.setIfInBounds_toArray, List.set_cons_zero, List.set_cons_succ]
  refine UntH.take (i := 5) (some 158) rfl rfl (by kernel_rfl) (by kernel_rfl) (by kernel_rfl) (by kernel_rfl) (fun _ _ _ _ h => h) (by rfl) HS3.out ?_
  apply Exists.intro
  refine ⟨fun w' hw' => ?_, ?_⟩
  · have q0 := hw'
    go_simp
    first | done | rfl
  try simp only [Act.put, List.setIfInBounds_toArray, List.set_cons_zero, List.set_cons_succ]
  refine UntH.step (i := 6) (by kernel_rfl) rfl (fun K hK => ?_)
  go_simp
  refine HND.out.mono ?_
  rintro e w4 ⟨⟨v, rfl, ow⟩, x4⟩
  obtain ⟨va, vc, hv, _⟩ := own_shape ow
  subst hv
  have X4 := hide x4
  have O4 := hide ow
  clear x4 ow
  have Y4 := hide (bt Y3.out X4.out (Nat.le_refl _))
  have B4 := hide (B3.out.below X4.out)
  have R4 := hide (R3.out.below X4.out)
  have HS4 : Hid (w4.cell? ⟨wb, 0, none⟩ = some (.pointer (some ⟨a, 0, none⟩))) := (CEL.out _ Y4.out).1
  have OVX : Hid (w4.ownsRow w.heap.size 3 1 (.slice va (ndG N [zf, zg, zh]).1.length vc) (ndG N [zf, zg, zh]).1.length (zC (ndG N [zf, zg, zh]).1)) := by
    have h1 := O4.out
    refine ⟨h1.1, ?_⟩
    rcases h1.2 with e | ⟨g, cap, cur, e1, e2, r⟩
    · exact .inl e
    · exact .inr ⟨g, cap, cur, e1, Nat.le_trans Y3.out.size e2, r⟩
  have HLN := hide (ndG_len (A := [zf, zg, zh]) HOK.out)
  go_simp
  refine hK _ _ HS4.out ?_
  clear hK K HS3 HND
  refine UntH.take (i := 7) (some 152) rfl rfl (by kernel_rfl) (by kernel_rfl) (by kernel_rfl) (by kernel_rfl) (fun _ _ _ _ h => h) (by rfl) HS4.out ?_
  apply Exists.intro
  refine ⟨fun w' hw' => ?_, ?_⟩
  · have q0 := hw'
    go_simp
    first | done | rfl
  try simp only [Act.put, List.setIfInBounds_toArray, List.set_cons_zero, List.set_cons_succ]
  refine UntH.take (i := 8) (some 160) rfl rfl (by kernel_rfl) (by kernel_rfl) (by kernel_rfl) (by kernel_rfl) (fun _ _ _ _ h => h) (by rfl) HS4.out ?_
  apply Exists.intro
  refine ⟨fun w' hw' => ?_, ?_⟩
  · have q0 := hw'
    go_simp
    first | done | rfl
  try simp only [Act.put, List.setIfInBounds_toArray, List.set_cons_zero, List.set_cons_succ]
  refine UntH.take (i := 9) (some 161) rfl rfl (by kernel_rfl) (by kernel_rfl) (by kernel_rfl) (by kernel_rfl) (fun _ _ _ _ h => h) (by rfl) HS4.out ?_
  apply Exists.intro
  refine ⟨fun w' hw' => ?_, ?_⟩
  · have q0 := hw'
    go_simp
    first | done | rfl
  try simp only [Act.put, List.setIfInBounds_toArray, List.set_cons_zero, List.set_cons_succ]
  refine UntH.take (i := 10) (some 19) rfl rfl (by kernel_rfl) (by kernel_rfl) (by kernel_rfl) (by kernel_rfl) (fun _ _ _ _ h => h) (by rfl) HS4.out ?_
  apply Exists.intro
  refine ⟨fun w' hw' => ?_, ?_⟩
  · have q0 := hw'
    go_simp
    first | done | rfl
  try simp only [Act.put, List.setIfInBounds_toArray, List.set_cons_zero, List.set_cons_succ]
  refine UntH.last (by kernel_rfl) rfl (by kernel_rfl) (by kernel_rfl) (fun K hK => ?_)
  go_simp
  refine hK _ _ ?_
  clear hK K HS4 B3 Y3 R3 X4 O4
  go_upto_region 18 with fail
  have R5 : Hid (RwZ w4.drew nb ([zf, zg, zh] ++ [-77])) := R4.out
  have B5 : Hid (Bx w4.drew ob zn 9 zf zg zh zl zc iv cv) := B4.out
  have Y5 : Hid (Below w.heap.size w w4.drew) := Y4.out.drew
  have OV5 := hide (own_below OVX.out (Below.refl _ w4).drew)
  refine wp_unt (S := fun V => V.cell? ⟨wb, 1, none⟩ = some (.pointer (some ⟨x, 0, none⟩)) ∧ V.cell? ⟨ob, 2, none⟩ = some (.int .i64 zf) ∧ V.cell? ⟨ob, 3, none⟩ = some (.int .i64 zg) ∧ V.cell? ⟨ob, 4, none⟩ = some (.int .i64 zh)) 16 (by kernel_rfl) ?_
  generalize w4.drew = w5 at *
  clear R4 B4 Y4 OVX
  have HS5 : Hid (w5.cell? ⟨wb, 1, none⟩ = some (.pointer (some ⟨x, 0, none⟩)) ∧ w5.cell? ⟨ob, 2, none⟩ = some (.int .i64 zf) ∧ w5.cell? ⟨ob, 3, none⟩ = some (.int .i64 zg) ∧ w5.cell? ⟨ob, 4, none⟩ = some (.int .i64 zh)) := ⟨(CEL.out _ Y5.out).2, B5.out.cells.2.2.1, B5.out.cells.2.2.2.1, B5.out.cells.2.2.2.2.1⟩
  refine UntH.take (i := 0) (some 163) rfl rfl (by kernel_rfl) (by kernel_rfl) (by kernel_rfl) (by kernel_rfl) (fun _ _ _ _ h => h) (by rfl) HS5.out ?_
  apply Exists.intro
  refine ⟨fun w' hw' => ?_, ?_⟩
  · (obtain ⟨q0, q1, q2, q3⟩ := hw')
    go_simp
    first | done | rfl
  try simp only [Act.put, List.setIfInBounds_toArray, List.set_cons_zero, List.set_cons_succ]
  refine UntH.take (i := 1) (some 164) rfl rfl (by kernel_rfl) (by kernel_rfl) (by kernel_rfl) (by kernel_rfl) (fun _ _ _ _ h => h) (by rfl) HS5.out ?_
  apply Exists.intro
  refine ⟨fun w' hw' => ?_, ?_⟩
  · (obtain ⟨q0, q1, q2, q3⟩ := hw')
    go_simp
    first | done | rfl
  try simp only [Act.put, List.setIfInBounds_toArray, List.set_cons_zero, List.set_cons_succ]
  refine UntH.take (i := 2) (some 165) rfl rfl (by kernel_rfl) (by kernel_rfl) (by kernel_rfl) (by kernel_rfl) (fun _ _ _ _ h => h) (by rfl) HS5.out ?_
  apply Exists.intro
  refine ⟨fun w' hw' => ?_, ?_⟩
  · (obtain ⟨q0, q1, q2, q3⟩ := hw')
    go_simp
    first | done | rfl
  try simp only [Act.put, List.setIfInBounds_toArray, List.set_cons_zero, List.set_cons_succ]
  refine UntH.take (i := 3) (some 166) rfl rfl (by kernel_rfl) (by kernel_rfl) (by kernel_rfl) (by kernel_rfl) (fun _ _ _ _ h => h) (by rfl) HS5.out ?_
  apply Exists.intro
  refine ⟨fun w' hw' => ?_, ?_⟩
  · (obtain ⟨q0, q1, q2, q3⟩ := hw')
    go_simp
    first | done | rfl
  try simp only [Act.put, List.setIfInBounds_toArray, List.set_cons_zero, List.set_cons_succ]
  refine UntH.take (i := 4) (some 167) rfl rfl (by kernel_rfl) (by kernel_rfl) (by kernel_rfl) (by kernel_rfl) (fun _ _ _ _ h => h) (by rfl) HS5.out ?_
  apply Exists.intro
  refine ⟨fun w' hw' => ?_, ?_⟩
  · (obtain ⟨q0, q1, q2, q3⟩ := hw')
    go_simp
    first | done | rfl
  try simp only [Act.put, List.setIfInBounds_toArray, List.set_cons_zero, List.set_cons_succ]
  refine UntH.take (i := 5) (some 168) rfl rfl (by kernel_rfl) (by kernel_rfl) (by kernel_rfl) (by kernel_rfl) (fun _ _ _ _ h => h) (by rfl) HS5.out ?_
  apply Exists.intro
  refine ⟨fun w' hw' => ?_, ?_⟩
  · (obtain ⟨q0, q1, q2, q3⟩ := hw')
    go_simp
    first | done | rfl
  try simp only [Act.put, List.setIfInBounds_toArray, List.set_cons_zero, List.set_cons_succ]
  refine UntH.take (i := 6) (some 169) rfl rfl (by kernel_rfl) (by kernel_rfl) (by kernel_rfl) (by kernel_rfl) (fun _ _ _ _ h => h) (by rfl) HS5.out ?_
  apply Exists.intro
  refine ⟨fun w' hw' => ?_, ?_⟩
  · (obtain ⟨q0, q1, q2, q3⟩ := hw')
    go_simp
    first | done | rfl
  try simp only [Act.put, List.setIfInBounds_toArray, List.set_cons_zero, List.set_cons_succ]
  refine UntH.take (i := 7) (some 170) rfl rfl (by kernel_rfl) (by kernel_rfl) (by kernel_rfl) (by kernel_rfl) (fun _ _ _ _ h => h) (by rfl) HS5.out ?_
  apply Exists.intro
  refine ⟨fun w' hw' => ?_, ?_⟩
  · (obtain ⟨q0, q1, q2, q3⟩ := hw')
    go_simp
    first | done | rfl
  try simp only [Act.put, List.setIfInBounds_toArray, List.set_cons_zero, List.set_cons_succ]
  refine UntH.take (i := 8) (some 171) rfl rfl (by kernel_rfl) (by kernel_rfl) (by kernel_rfl) (by kernel_rfl) (fun _ _ _ _ h => h) (by rfl) HS5.out ?_
  apply Exists.intro
  refine ⟨fun w' hw' => ?_, ?_⟩
  · (obtain ⟨q0, q1, q2, q3⟩ := hw')
    go_simp
    first | done | rfl
  try simp only [Act.put, List.setIfInBounds_toArray, List.set_cons_zero, List.set_cons_succ]
  refine UntH.take (i := 9) (some 172) rfl rfl (by kernel_rfl) (by kernel_rfl) (by kernel_rfl) (by kernel_rfl) (fun _ _ _ _ h => h) (by rfl) HS5.out ?_
  apply Exists.intro
  refine ⟨fun w' hw' => ?_, ?_⟩
  · (obtain ⟨q0, q1, q2, q3⟩ := hw')
    go_simp
    first | done | rfl
  try simp only [Act.put, List.setIfInBounds_toArray, List.set_cons_zero, List.set_cons_succ]
  have y6 : Below w5.heap.size w5 (w5.alloc (.cells #[.int .i64 zf, .int .i64 zg, .int .i64 zh] 3)) := al (Below.refl _ _) _
  have Z6 : Hid (ZAt (w5.alloc (.cells #[.int .i64 zf, .int .i64 zg, .int .i64 zh] 3)) (some ⟨w5.heap.size, 0, none⟩) [zf, zg, zh]) := zat_new w5 [zf, zg, zh]
  have Y6 := hide (bt Y5.out y6 (Nat.le_refl _))
  have B6 := hide (B5.out.below y6)
  have R6 := hide (R5.out.below y6)
  have OV6 := hide (own_below OV5.out y6)
  have HS6 : Hid ((w5.alloc (.cells #[.int .i64 zf, .int .i64 zg, .int .i64 zh] 3)).cell? ⟨wb, 1, none⟩ = some (.pointer (some ⟨x, 0, none⟩)) ∧ (w5.alloc (.cells #[.int .i64 zf, .int .i64 zg, .int .i64 zh] 3)).cell? ⟨ob, 2, none⟩ = some (.int .i64 zf) ∧ (w5.alloc (.cells #[.int .i64 zf, .int .i64 zg, .int .i64 zh] 3)).cell? ⟨ob, 3, none⟩ = some (.int .i64 zg) ∧ (w5.alloc (.cells #[.int .i64 zf, .int .i64 zg, .int .i64 zh] 3)).cell? ⟨ob, 4, none⟩ = some (.int .i64 zh)) := ⟨(CEL.out _ Y6.out).2, B6.out.cells.2.2.1, B6.out.cells.2.2.2.1, B6.out.cells.2.2.2.2.1⟩
  have NDD := (nodesD_any (cap := 3) (A := [zf, zg, zh]) (HSD.out.below Y6.out).ra Z6.out (by simp)).mono (fun e W h => NdsL.form h)
  have HND : Hid (Calls Try.prog 35 #[.pointer (some ⟨x, 0, none⟩), .slice (some ⟨w5.heap.size, 0, none⟩) 3 3] (w5.alloc (.cells #[.int .i64 zf, .int .i64 zg, .int .i64 zh] 3)) fun e w' => (∃ v, e = .returned (.tuple #[v, .int .i64 (ndG N [zf, zg, zh]).2]) ∧ w'.ownsRow (w5.alloc (.cells #[.int .i64 zf, .int .i64 zg, .int .i64 zh] 3)).heap.size 3 1 v (ndG N [zf, zg, zh]).1.length (zC (ndG N [zf, zg, zh]).1)) ∧ Below (w5.alloc (.cells #[.int .i64 zf, .int .i64 zg, .int .i64 zh] 3)).heap.size (w5.alloc (.cells #[.int .i64 zf, .int .i64 zg, .int .i64 zh] 3)) w') := NDD
  clear NDD y6 B5 Y5 R5 OV5 HS5
  refine UntH.step (i := 10) (by kernel_rfl) rfl (fun K hK => ?_)
  go_simp
  refine hK _ _ HS6.out ?_
  clear hK K
  generalize w5.alloc (.cells #[.int .i64 zf, .int .i64 zg, .int .i64 zh] 3) = w6 at *
  generalize w5.heap.size = qb at *
  generalize ndG N [zf, zg, zh] = ng at *
  obtain ⟨L, ne⟩ := ng
  simp only at OV6 HLN HND ⊢
  refine UntH.step (i := 11) (by kernel_rfl) rfl (fun K hK => ?_)
  go_simp
  refine HND.out.mono ?_
  rintro e w7 ⟨⟨v, rfl, ow⟩, x7⟩
  obtain ⟨za, zcc, hv, _⟩ := own_shape ow
  subst hv
  have X7 := hide x7
  have Z7 : Hid (ZAt w7 za L) := by
    obtain ⟨ao, cp, e1, at1⟩ := own_zat ow
    injection e1 with e1 _ _
    subst e1
    exact at1
  clear x7 ow
  have Y7 := hide (bt Y6.out X7.out (Nat.le_refl _))
  have B7 := hide (B6.out.below X7.out)
  have R7 := hide (R6.out.below X7.out)
  have OV7 := hide (own_below OV6.out X7.out)
  have HS7 : Hid (w7.cell? ⟨wb, 1, none⟩ = some (.pointer (some ⟨x, 0, none⟩)) ∧ w7.cell? ⟨ob, 2, none⟩ = some (.int .i64 zf) ∧ w7.cell? ⟨ob, 3, none⟩ = some (.int .i64 zg) ∧ w7.cell? ⟨ob, 4, none⟩ = some (.int .i64 zh)) := ⟨(CEL.out _ Y7.out).2, B7.out.cells.2.2.1, B7.out.cells.2.2.2.1, B7.out.cells.2.2.2.2.1⟩
  go_simp
  refine hK _ _ HS7.out ?_
  clear hK K HS6 HND B6 Y6 R6 OV6 X7 Z6
  refine UntH.take (i := 12) (some 162) rfl rfl (by kernel_rfl) (by kernel_rfl) (by kernel_rfl) (by kernel_rfl) (fun _ _ _ _ h => h) (by rfl) HS7.out ?_
  apply Exists.intro
  refine ⟨fun w' hw' => ?_, ?_⟩
  · (obtain ⟨q0, q1, q2, q3⟩ := hw')
    go_simp
    first | done | rfl
  try simp only [Act.put, List.setIfInBounds_toArray, List.set_cons_zero, List.set_cons_succ]
  refine UntH.take (i := 13) (some 175) rfl rfl (by kernel_rfl) (by kernel_rfl) (by kernel_rfl) (by kernel_rfl) (fun _ _ _ _ h => h) (by rfl) HS7.out ?_
  apply Exists.intro
  refine ⟨fun w' hw' => ?_, ?_⟩
  · (obtain ⟨q0, q1, q2, q3⟩ := hw')
    go_simp
    first | done | rfl
  try simp only [Act.put, List.setIfInBounds_toArray, List.set_cons_zero, List.set_cons_succ]
  refine UntH.take (i := 14) (some 176) rfl rfl (by kernel_rfl) (by kernel_rfl) (by kernel_rfl) (by kernel_rfl) (fun _ _ _ _ h => h) (by rfl) HS7.out ?_
  apply Exists.intro
  refine ⟨fun w' hw' => ?_, ?_⟩
  · (obtain ⟨q0, q1, q2, q3⟩ := hw')
    go_simp
    first | done | rfl
  try simp only [Act.put, List.setIfInBounds_toArray, List.set_cons_zero, List.set_cons_succ]
  refine UntH.take (i := 15) (some 21) rfl rfl (by kernel_rfl) (by kernel_rfl) (by kernel_rfl) (by kernel_rfl) (fun _ _ _ _ h => h) (by rfl) HS7.out ?_
  apply Exists.intro
  refine ⟨fun w' hw' => ?_, ?_⟩
  · (obtain ⟨q0, q1, q2, q3⟩ := hw')
    go_simp
    first | done | rfl
  try simp only [Act.put, List.setIfInBounds_toArray, List.set_cons_zero, List.set_cons_succ]
  refine UntH.last (by kernel_rfl) rfl (by kernel_rfl) (by kernel_rfl) (fun K hK => ?_)
  go_simp
  refine hK _ _ ?_
  clear hK K HS7
  have ZA : Hid (ZAt w7 va L) := by
    obtain ⟨ao, cp, e1, at1⟩ := own_zat OV7.out
    injection e1 with e1 _ _
    subst e1
    exact at1
  have SM := same_any va za vc zcc L L w7 (by have := HLN.out; omega) ZA.out Z7.out
  rw [decide_eq_true rfl] at SM
  have HSM := hide SM
  clear SM
  go_upto_region 20 with (go_at_call 28; refine HSM.out.mono ?_; rintro e w8 ⟨rfl, x8⟩; have X8 := hide x8; clear x8)
  clear HSM ZA Z7
  have Y8 := hide (bt Y7.out X8.out (Nat.le_refl _))
  have OVn := hide (own_below OV7.out X8.out)
  have B8 := hide (B7.out.below X8.out)
  have R8 := hide (R7.out.below X8.out)
  clear OV7 Y7 B7 R7 X8
  obtain ⟨i22, hi22, hy0, hy1, hy2⟩ := info_parts Try.info22
  have PSn := hide (HPS.out.below Y8.out)
  obtain ⟨la, lc, hlv, _⟩ := own_shape PSn.out.wd.ls.row
  have HLV := hide hlv
  clear hlv
  have c2 : w8.cell? ⟨wb, 2, none⟩ = some (.slice la D.length lc) := by rw [← HLV.out]; exact PSn.out.wd.blk.cells.2.2
  have ya : Below w8.heap.size w8 (w8.alloc (.cells #[.slice va L.length vc] 22)) := al (Below.refl _ _) _
  have PSa := hide (PSn.out.below ya)
  have OWa : Hid ((w8.alloc (.cells #[.slice va L.length vc] 22)).ownsRow B 22 1 (.slice la D.length lc) D.length (D.map LD.v)) := by rw [← HLV.out]; exact PSa.out.wd.ls.row
  have OV := hide (own_below OVn.out ya)
  have YA := hide (bt Y8.out ya (Nat.le_refl _))
  have YN := hide ya
  have SZa : Hid (B ≤ (w8.alloc (.cells #[.slice va L.length vc] 22)).heap.size) := Nat.le_trans HBw.out YA.out.size
  have PU : Hid (∀ v5 (wz : World), wz.ownsRow B 22 1 v5 (D.length + 1) (D.map LD.v ++ [.slice va L.length vc]) → AppAt (w8.alloc (.cells #[.slice va L.length vc] 22)) wz (.slice la D.length lc) v5 → (∃ X', PS (wz.setCell ⟨wb, 2, none⟩ v5) B wb a x S M N P Q v5 (D ++ [⟨.slice va L.length vc, L.length⟩]) X') ∧ WBk wz wb a x (.slice la D.length lc) ∧ Below B w (wz.setCell ⟨wb, 2, none⟩ v5) ∧ Kept (fun k => lv.ownBlock = some k ∨ k = wb) w8 (wz.setCell ⟨wb, 2, none⟩ v5)) := fun v5 wz h1 h3 => by
    have ka := appK h3
    rw [← HLV.out] at ka ⊢
    have na : ∀ k, v5.ownBlock = some k → lv.ownBlock = some k ∨ (w8.alloc (.cells #[.slice va L.length vc] 22)).heap.size ≤ k := fun k hk => by
      rcases h3 with ⟨g, p1, p2, _⟩ | ⟨_, p2⟩
      · rw [p2] at hk; rw [HLV.out]; exact .inl (p1.trans hk)
      · exact .inr (p2 k hk)
    obtain ⟨X', t1, t2, t3, t4⟩ := PSa.out.push (w0 := w) HBw.out YA.out.size (fun k hk => (HPS.out.wd.lt.2.2 k hk).2) (fun k hk => hk.elim (fun e => HPS.out.sd.ca.plt e) (fun e => HPS.out.sd.ra.plt e)) OV.out HLN.out ka h1 na
    exact ⟨⟨X', t1⟩, t2, (YA.out.mono HBw.out).trans t3, (Kept.of_below YN.out).trans t4⟩
  clear ya
  go_upto_region 21 with (at_builtin; refine wpList_append_view rfl (.tmp 184) (.tmp 186) 33 rfl B 22 i22 (.slice none 0 0) 1 24 Try.underlying33 hi22 hy0 hy1 hy2 rfl (by decide) _ D.length (D.map LD.v) rfl OWa.out ⟨w8.heap.size, 0, none⟩ 1 1 [.slice va L.length vc] rfl rfl (one_new w8 _ _) (by simp [Value.oneCell']) (by decide) (by have := HDl.out; unfold maxLen; omega) (by have := HDl.out; omega) SZa.out ?_; intro v5 w12 h1 h3; obtain ⟨a5, c5, hv5, _⟩ := own_shape h1; subst hv5; obtain ⟨fin, b8, bel, kpt⟩ := PU.out _ w12 h1 h3; have FKK := hide kpt; have FIN := hide fin; have FBL := hide bel; have f8 := frozen_of_row w12 wb 2 _ _ b8; have d8 : w12.cell? ⟨wb, 2, none⟩ = some (.slice la D.length lc) := b8.cells.2.2; clear fin b8 bel kpt h1 h3)
  clear PU OWa c2
  clear f8 d8
  generalize w12.setCell ⟨wb, 2, none⟩ (.slice a5 (D.length + 1) c5) = w13 at *
  have NKK : Hid (∀ b, w.heap.size ≤ b → ¬ (lv.ownBlock = some b ∨ b = wb)) := fun b hb e => by
    have l := HPS.out.wd.lt
    rcases e with e | e
    · have := (l.2.1 b e).2; omega
    · have := l.1; omega
  have B13 := hide (B8.out.kept FKK.out (NKK.out ob HOBS.out))
  have R13 := hide (R8.out.kept FKK.out (NKK.out nb HNBS.out))
  obtain ⟨o0, o1, o2, o3, o4, o5, o6, o7, o8⟩ := B13.out.cells
  have y14 : Below w13.heap.size w13 (w13.alloc (.cells #[.int .i64 zf, .int .i64 zg, .int .i64 zh, .int .i64 (-77)] 3)) := al (Below.refl _ _) _
  have Z14 : Hid (ZAt (w13.alloc (.cells #[.int .i64 zf, .int .i64 zg, .int .i64 zh, .int .i64 (-77)] 3)) (some ⟨w13.heap.size, 0, none⟩) [zf, zg, zh, -77]) := zat_new w13 [zf, zg, zh, -77]
  have SM := same_any (some ⟨nb, 0, none⟩) (some ⟨w13.heap.size, 0, none⟩) 4 4 [zf, zg, zh, -77] [zf, zg, zh, -77] (w13.alloc (.cells #[.int .i64 zf, .int .i64 zg, .int .i64 zh, .int .i64 (-77)] 3)) (by simp) (R13.out.below y14).zbk.at Z14.out
  rw [decide_eq_true rfl] at SM
  have HSM : Hid (Calls Try.prog 28 #[.slice (some ⟨nb, 0, none⟩) 4 4, .slice (some ⟨w13.heap.size, 0, none⟩) 4 4] (w13.alloc (.cells #[.int .i64 zf, .int .i64 zg, .int .i64 zh, .int .i64 (-77)] 3)) fun e w' => e = .returned (.bool true) ∧ Below (w13.alloc (.cells #[.int .i64 zf, .int .i64 zg, .int .i64 zh, .int .i64 (-77)] 3)).heap.size (w13.alloc (.cells #[.int .i64 zf, .int .i64 zg, .int .i64 zh, .int .i64 (-77)] 3)) w') := SM
  have Y14 := hide y14
  have HB13 : Hid (B ≤ w13.heap.size) := Nat.le_trans HBw.out FBL.out.size
  clear SM y14 B13 R13 B8 R8 NKK
  go_wp2_with (go_at_call 28; refine HSM.out.mono ?_; rintro e w15 ⟨rfl, x15⟩; have X15 := hide (bt Y14.out x15 (Nat.le_refl _)); clear x15)
  go_ret
  obtain ⟨X', ps⟩ := FIN.out
  exact ⟨rfl, P, Q, _, _, X', ps.below X15.out, by simp, FBL.out.trans (X15.out.mono HB13.out)⟩
set_option maxRecDepth 100000 in
set_option maxHeartbeats 8000000 in
theorem looks_back {zn : Bool} {zf zg zh zl zc : Int} {iv cv : Value}  (hps : PS w B wb a x S M N P Q lv D X) (hBw : B ≤ w.heap.size) (hfc : Fit zc) :
    Calls Try.prog 11 #[.pointer (some ⟨wb, 0, none⟩), .agg #[.bool zn, .int .i64 10, .int .i64 zf, .int .i64 zg, .int .i64 zh, .int .i64 zl, .int .i64 zc, iv, cv]] w fun e w' => ∃ n : Nat, n ≤ N.length ∧ e = .returned (.bool true) ∧ PL B wb a x S M D w (N.take n) w' := by
  have y1 : Below w.heap.size w (w.alloc (.cells #[.bool zn, .int .i64 10, .int .i64 zf, .int .i64 zg, .int .i64 zh, .int .i64 zl, .int .i64 zc, iv, cv] 38)) := al (Below.refl _ _) _
  have bx1 : Bx (w.alloc (.cells #[.bool zn, .int .i64 10, .int .i64 zf, .int .i64 zg, .int .i64 zh, .int .i64 zl, .int .i64 zc, iv, cv] 38)) w.heap.size zn 10 zf zg zh zl zc iv cv := heap_alloc_new w _
  have B1 := hide bx1
  have Y1 := hide y1
  have HSD := hide hps.sd
  have HWB := hide hps.wd.blk
  have CEL : Hid (∀ W, Below w.heap.size w W → W.cell? ⟨wb, 0, none⟩ = some (.pointer (some ⟨a, 0, none⟩)) ∧ W.cell? ⟨wb, 1, none⟩ = some (.pointer (some ⟨x, 0, none⟩))) := fun W y => by
    have b := (show WBk W wb a x lv from (y.block _ (lt_of_block hps.wd.blk)).trans hps.wd.blk).cells
    exact ⟨b.1, b.2.1⟩
  have OB : Hid (∃ ob, ob = w.heap.size) := ⟨_, rfl⟩
  have HPS := hide hps
  have HBw := hide hBw
  have hfew : N.length ≤ 8192 := by have := hps.sd.ca.ok.few; have := hps.sd.ca.ok.m1; omega
  have PK := hide (fun W => pick_any zc 3 hfc (by decide) (by decide) W)
  have hpk := pkZ_lt zc (n := 3) (by decide)
  generalize pkZ zc 3 = pk at *
  clear hps hBw hfc y1 bx1
  go_enter Try.func11, Try.ntmps11
  go_upto_region 1 with fail
  generalize w.alloc (.cells #[.bool zn, .int .i64 10, .int .i64 zf, .int .i64 zg, .int .i64 zh, .int .i64 zl, .int .i64 zc, iv, cv] 38) = w1 at *
  obtain ⟨ob, hob⟩ := OB.out
  rw [← hob] at B1
  try rw [← hob]
  have HOBS : Hid (w.heap.size ≤ ob) := by rw [hob]; exact Nat.le_refl _
  clear hob OB
  obtain ⟨o0, o1, o2, o3, o4, o5, o6, o7, o8⟩ := B1.out.cells
  go_upto_region 23 with fail
  clear o0 o1 o2 o3 o4 o5 o6 o7 o8
  have B2 : Hid (Bx w1.drew ob zn 10 zf zg zh zl zc iv cv) := B1.out
  have Y2 : Hid (Below w.heap.size w w1.drew) := Y1.out.drew
  obtain ⟨n, hn⟩ : ∃ n : Nat, n = N.length - pk := ⟨_, rfl⟩
  have hnl : n ≤ N.length := by omega
  go_cut [25] (fun v wx => v = .int .i64 (n : Int) ∧ Hid (wx = w1.drew))
  case first =>
    refine wp_unt (S := fun V => V = w1.drew) 10 (by kernel_rfl) ?_
    generalize w1.drew = w2 at *
    have q0 := (CEL.out _ Y2.out).2
    have q1 := B2.out.cells.2.2.2.2.2.2.1
    have L1 := hide (HSD.out.below Y2.out).ra.len
    refine UntH.take (i := 0) (some 208) rfl rfl (by kernel_rfl) (by kernel_rfl) (by kernel_rfl) (by kernel_rfl) (fun _ _ _ _ h => h) (by rfl) rfl ?_
    apply Exists.intro
    refine ⟨fun w' hw' => ?_, ?_⟩
    · subst hw'
      go_simp
      first | done | rfl
    try simp only [Act.put, List.setIfInBounds_toArray, List.set_cons_zero, List.set_cons_succ]
    refine UntH.take (i := 1) (some 209) rfl rfl (by kernel_rfl) (by kernel_rfl) (by kernel_rfl) (by kernel_rfl) (fun _ _ _ _ h => h) (by rfl) rfl ?_
    apply Exists.intro
    refine ⟨fun w' hw' => ?_, ?_⟩
    · subst hw'
      go_simp
      first | done | rfl
    try simp only [Act.put, List.setIfInBounds_toArray, List.set_cons_zero, List.set_cons_succ]
    refine UntH.take (i := 2) (some 210) rfl rfl (by kernel_rfl) (by kernel_rfl) (by kernel_rfl) (by kernel_rfl) (fun _ _ _ _ h => h) (by rfl) rfl ?_
    apply Exists.intro
    refine ⟨fun w' hw' => ?_, ?_⟩
    · subst hw'
      go_simp
      first | done | rfl
    try simp only [Act.put, List.setIfInBounds_toArray, List.set_cons_zero, List.set_cons_succ]
    refine UntH.take (i := 3) (some 211) rfl rfl (by kernel_rfl) (by kernel_rfl) (by kernel_rfl) (by kernel_rfl) (fun _ _ _ _ h => h) (by rfl) rfl ?_
    apply Exists.intro
    refine ⟨fun w' hw' => ?_, ?_⟩
    · subst hw'
      go_simp
      first | done | rfl
    try simp only [Act.put, List.setIfInBounds_toArray, List.set_cons_zero, List.set_cons_succ]
    refine UntH.take (i := 5) (some 213) rfl rfl (by kernel_rfl) (by kernel_rfl) (by kernel_rfl) (by kernel_rfl) (fun _ _ _ _ h => h) (by rfl) rfl ?_
    apply Exists.intro
    refine ⟨fun w' hw' => ?_, ?_⟩
    · subst hw'
      go_simp
      first | done | rfl
    try simp only [Act.put, List.setIfInBounds_toArray, List.set_cons_zero, List.set_cons_succ]
    refine UntH.take (i := 6) (some 214) rfl rfl (by kernel_rfl) (by kernel_rfl) (by kernel_rfl) (by kernel_rfl) (fun _ _ _ _ h => h) (by rfl) rfl ?_
    apply Exists.intro
    refine ⟨fun w' hw' => ?_, ?_⟩
    · subst hw'
      go_simp
      first | done | rfl
    try simp only [Act.put, List.setIfInBounds_toArray, List.set_cons_zero, List.set_cons_succ]
    clear q0 q1
    refine UntH.step (i := 4) (by kernel_rfl) rfl (fun K hK => ?_)
    go_simp
    refine L1.out.mono ?_
    rintro e w9 ⟨rfl, hw8⟩
    have hw9 := hw8.symm
    clear hw8
    subst hw9
    go_simp
    refine hK _ _ rfl ?_
    clear hK K
    refine UntH.step (i := 7) (by kernel_rfl) rfl (fun K hK => ?_)
    go_simp
    refine (PK.out w2).mono ?_
    rintro e w9 ⟨rfl, hw8⟩
    have hw9 := hw8.symm
    clear hw8
    subst hw9
    go_simp
    refine hK _ _ rfl ?_
    clear hK K
    have hws : IntKind.i64.wrap ((N.length : Int) - (pk : Int)) = (N.length : Int) - (pk : Int) := by simp [IntKind.wrap, IntKind.bits, IntKind.signed]; omega
    by_cases hp : pk ≤ N.length
    · have e1 : (N.length : Int) - (pk : Int) = (n : Int) := by omega
      rw [e1] at hws
      clear hn
      by_cases hz : n = 0
      · subst hz
        have hm1 : max (0 : Int) ((0 : Nat) : Int) = ((0 : Nat) : Int) := by decide
        refine UntH.take (i := 8) (some 216) rfl rfl (by kernel_rfl) (by kernel_rfl) (by kernel_rfl) (by kernel_rfl) (fun _ _ _ _ h => h) (by rfl) rfl ?_
        apply Exists.intro
        refine ⟨fun w' hw' => ?_, ?_⟩
        · subst hw'
          go_simp
          first | done | rfl
        try simp only [Act.put, List.setIfInBounds_toArray, List.set_cons_zero, List.set_cons_succ]
        refine UntH.step (i := 9) (by kernel_rfl) rfl (fun K hK => ?_)
        go_simp
        refine hK _ _ rfl ?_
        clear hK K
        refine UntH.last (by kernel_rfl) rfl (by kernel_rfl) (by kernel_rfl) (fun K hK => ?_)
        go_simp
        refine hK _ _ ?_
        clear hK K
        go_wp2
        go_meet
        exact ⟨rfl, rfl⟩
      · have hm1 : max (0 : Int) (n : Int) = (n : Int) := by omega
        have hm2 : (0 : Int) ≤ (n : Int) := by omega
        have hm3 : (0 : Int) < (n : Int) := by omega
        have hm4 : 0 < n := by omega
        have hm5 : ¬ (n : Int) ≤ 0 := by omega
        have hm6 : ¬ (n : Int) < 0 := by omega
        refine UntH.take (i := 8) (some 216) rfl rfl (by kernel_rfl) (by kernel_rfl) (by kernel_rfl) (by kernel_rfl) (fun _ _ _ _ h => h) (by rfl) rfl ?_
        apply Exists.intro
        refine ⟨fun w' hw' => ?_, ?_⟩
        · subst hw'
          go_simp
          first | done | rfl
        try simp only [Act.put, List.setIfInBounds_toArray, List.set_cons_zero, List.set_cons_succ]
        refine UntH.step (i := 9) (by kernel_rfl) rfl (fun K hK => ?_)
        go_simp
        refine hK _ _ rfl ?_
        clear hK K
        refine UntH.last (by kernel_rfl) rfl (by kernel_rfl) (by kernel_rfl) (fun K hK => ?_)
        go_simp
        refine hK _ _ ?_
        clear hK K
        go_wp2
        go_meet
        exact ⟨rfl, rfl⟩
    · obtain ⟨d, hd⟩ : ∃ d : Int, (N.length : Int) - (pk : Int) = d := ⟨_, rfl⟩
      have hd0 : d < 0 := by omega
      rw [hd] at hws
      have hn0 : n = 0 := by omega
      subst hn0
      have hm1 : max (0 : Int) d = 0 := by omega
      have hm2 : ¬ (0 : Int) ≤ d := by omega
      have hm3 : ¬ (0 : Int) < d := by omega
      clear hn
      refine UntH.take (i := 8) (some 216) rfl rfl (by kernel_rfl) (by kernel_rfl) (by kernel_rfl) (by kernel_rfl) (fun _ _ _ _ h => h) (by rfl) rfl ?_
      apply Exists.intro
      refine ⟨fun w' hw' => ?_, ?_⟩
      · subst hw'
        go_simp
        first | done | rfl
      try simp only [Act.put, List.setIfInBounds_toArray, List.set_cons_zero, List.set_cons_succ]
      refine UntH.step (i := 9) (by kernel_rfl) rfl (fun K hK => ?_)
      go_simp
      refine hK _ _ rfl ?_
      clear hK K
      refine UntH.last (by kernel_rfl) rfl (by kernel_rfl) (by kernel_rfl) (fun K hK => ?_)
      go_simp
      refine hK _ _ ?_
      clear hK K
      go_wp2
      go_meet
      exact ⟨rfl, rfl⟩
  obtain ⟨rfl, hwc⟩ := hcut
  have hwc2 := hwc.out
  clear hwc
  generalize w1.drew = w2 at *
  have hwc3 := hwc2.symm
  clear hwc2
  subst hwc3
  clear B1 Y1 B2 PK hn hpk
  have q0 := (CEL.out _ Y2.out).1
  have P2 := hide (HPS.out.below Y2.out)
  have BKC := hide (P2.out.sd.ca.back (n : Int))
  have BC : Hid (∀ e w', BkL N (n : Int) w2 e w' (fun N' V => CA V a S M N' 8192 P) P → e = .returned (.int .i64 0) ∧ CA w' a S M (N.take n) 8192 P ∧ Kept P w2 w') := fun e w' hb => by
    rcases hb with ⟨_, _, h3, h4, h5⟩ | ⟨h1, _⟩
    · rw [Int.toNat_natCast] at h4; exact ⟨h3, h4, h5⟩
    · exact absurd ⟨by omega, by omega⟩ h1
  go_upto_region 25 with (go_at_call 36; refine BKC.out.mono ?_; rintro e w3 hb; obtain ⟨rfl, ca3, k3⟩ := BC.out e w3 hb; have CA3 := hide ca3; have K3 := hide k3; clear hb ca3 k3)
  clear BKC BC q0
  have RA3 := hide (P2.out.sd.ra.kept K3.out (fun b hb hp => P2.out.sd.dis b hp hb))
  have W3 : WBk w3 wb a x lv := (K3.out.block _ (lt_of_block P2.out.wd.blk) P2.out.np).trans P2.out.wd.blk
  have q1 := W3.cells.2.1
  have BKD := hide (RA3.out.back (n : Int))
  have BD : Hid (∀ e w', BkL N (n : Int) w3 e w' (fun N' V => RA V x S M N' Q) Q → e = .returned (.int .i64 0) ∧ RA w' x S M (N.take n) Q ∧ Kept Q w3 w') := fun e w' hb => by
    rcases hb with ⟨_, _, h3, h4, h5⟩ | ⟨h1, _⟩
    · rw [Int.toNat_natCast] at h4; exact ⟨h3, h4, h5⟩
    · exact absurd ⟨by omega, by omega⟩ h1
  have HB2 : Hid (B ≤ w2.heap.size) := Nat.le_trans HBw.out Y2.out.size
  go_wp2_with (go_at_call 19; refine BKD.out.mono ?_; rintro e w4 hb; obtain ⟨rfl, ra4, k4⟩ := BD.out e w4 hb; have RA4 := hide ra4; have K4 := hide k4; clear hb ra4 k4)
  go_ret
  refine ⟨n, hnl, rfl, ?_⟩
  have sd4 : SD w4 a x S M (N.take n) (N.take n) P Q := ⟨CA3.out.kept K4.out (fun b hb hq => P2.out.sd.dis b hb hq), RA4.out, P2.out.sd.dis⟩
  obtain ⟨P', Q', lv', D', X', r1, r2, r3⟩ := P2.out.stepL HB2.out sd4 ((K3.out.mono (fun _ h => .inl h)).trans (K4.out.mono (fun _ h => .inr h))) (Gw.refl _ _) (Gw.refl _ _)
  exact ⟨P', Q', lv', D', X', r1, r2, (Y2.out.mono HBw.out).trans r3⟩
end
end Go.Proofs.Ytaafeflbanoncaa
