/-
  Print, Right: of a policy that is written, and of one whose item has no kind. Condition: as in the texts before.
-/
import Derived.Test.YtlmhofjiobmodaaGreatDoorQ25
import Derived.Test.YtlmhofjiobmodaaGreatDoorQ43
import Derived.Test.YtlmhofjiobmodaaGreatDoorQ03
import Derived.Laws.StructEq
namespace Go.Proofs.YtlmhofjiobmodaaGreatDoor
open Go.RowKit Go.Lib

set_option maxRecDepth 100000 in
set_option maxHeartbeats 4000000 in
theorem written_zero {w : World} {b0 : Nat} {v : Value} (ho : w.ownsRow b0 62 11 v 1 zit.toList) : Calls Tryz.prog 42 #[.agg #[v]] w fun e w' => e = pan 93 0 ∧ Below w.heap.size w w' := by
  obtain ⟨ao, cp, hv, hav⟩ := own_shape ho
  subst hv
  obtain ⟨g, hg⟩ := hav (by decide)
  subst hg
  clear hav
  have XW := hide (show Below w.heap.size w (w.alloc (.cells #[.slice (some ⟨g, 0, none⟩) 1 cp] 36)) from al (Below.refl _ _) _)
  have HB := hide (heap_alloc_new w (.cells #[.slice (some ⟨g, 0, none⟩) 1 cp] 36))
  have HO := hide (own_below ho XW.out)
  have HM := hide must_ok
  clear ho
  obtain ⟨P, hP⟩ : ∃ P, P = w.heap.size := ⟨_, rfl⟩
  go_enter Tryz.func42, Tryz.ntmps42
  go_upto_region 1 with fail
  rw [← hP] at HB ⊢
  clear hP
  generalize w.alloc (.cells #[.slice (some ⟨g, 0, none⟩) 1 cp] 36) = W at *
  have q0 : W.cell? ⟨P, 0, none⟩ = some (.slice (some ⟨g, 0, none⟩) 1 cp) := by rw [cell_of_row _ _ _ _ _ _ HB.out]; rfl
  go_upto_region 2 with (go_at_call 65; refine (HM.out _).mono ?_; rintro e w2 ⟨rfl, hw⟩; have hw2 := hw.symm; clear hw; subst hw2)
  clear q0
  have XQ : Hid (Below W.heap.size W (W.alloc (.cells #[.pointer none, .slice none 0 0, .bool true] 120))) := al (Below.refl _ _) _
  have HB2 := hide ((XQ.out.block P (lt_of_block HB.out)).trans HB.out)
  have HO2 := hide (own_below HO.out XQ.out)
  have XX := hide (bt XW.out XQ.out (Nat.le_refl _))
  go_upto_region 3 with fail
  obtain ⟨Q, hQ⟩ : ∃ Q, Q = W.heap.size := ⟨_, rfl⟩
  rw [← hQ]
  clear hQ HB HO XW XQ
  generalize W.alloc (.cells #[.pointer none, .slice none 0 0, .bool true] 120) = W2 at *
  have q0 : W2.cell? ⟨P, 0, none⟩ = some (.slice (some ⟨g, 0, none⟩) 1 cp) := by rw [cell_of_row _ _ _ _ _ _ HB2.out]; rfl
  go_wp2
  clear q0
  go_loopg [5, 15] 2 (fun gg x5 x15 wr => x15 = .int .i64 0 ∧ Hid (Below W2.heap.size W2 wr) ∧ 0 < gg)
  case atStart => exact ⟨rfl, hide (Below.refl _ _), by omega⟩
  case round =>
    obtain ⟨rfl, XR, hg⟩ := hrel
    clear hg
    have hcl : ∀ r, r < 11 → wr.cell? ⟨g, r, none⟩ = zit.toList[r]? := fun r hr => World.ownsRow.cellAt (own_below HO2.out XR.out) r (by omega)
    have q0 := hcl 0 (by omega)
    have q1 := hcl 1 (by omega)
    have q2 := hcl 2 (by omega)
    have q3 := hcl 3 (by omega)
    have q4 := hcl 4 (by omega)
    have q5 := hcl 5 (by omega)
    have q6 := hcl 6 (by omega)
    have q7 := hcl 7 (by omega)
    have q8 := hcl 8 (by omega)
    have q9 := hcl 9 (by omega)
    have q10 := hcl 10 (by omega)
    unfold zit at q0 q1 q2 q3 q4 q5 q6 q7 q8 q9 q10
    simp only [List.getElem?_cons_zero, List.getElem?_cons_succ] at q0 q1 q2 q3 q4 q5 q6 q7 q8 q9 q10
    clear hcl
    have HSB := hide (heap_alloc_new wr (.cells #[.int .i64 0, .string ⟨#[]⟩, .int .i64 0, .string ⟨#[]⟩, .string ⟨#[]⟩, .slice none 0 0, .slice none 0 0, .slice none 0 0, .slice none 0 0, .int .i64 0, .int .i64 0] 62))
    have XK : Hid (Below wr.heap.size wr (wr.alloc (.cells #[.int .i64 0, .string ⟨#[]⟩, .int .i64 0, .string ⟨#[]⟩, .string ⟨#[]⟩, .slice none 0 0, .slice none 0 0, .slice none 0 0, .slice none 0 0, .int .i64 0, .int .i64 0] 62))) := al (Below.refl _ _) _
    have X2 := hide (bt (bt XX.out XR.out (Nat.le_refl _)) XK.out (Nat.le_refl _))
    go_upto_region 6 with fail
    clear q0 q1 q2 q3 q4 q5 q6 q7 q8 q9 q10
    obtain ⟨B, hB⟩ : ∃ B, B = wr.heap.size := ⟨_, rfl⟩
    rw [← hB] at HSB ⊢
    clear hB XK XR
    generalize wr.alloc (.cells #[.int .i64 0, .string ⟨#[]⟩, .int .i64 0, .string ⟨#[]⟩, .string ⟨#[]⟩, .slice none 0 0, .slice none 0 0, .slice none 0 0, .slice none 0 0, .int .i64 0, .int .i64 0] 62) = wk at *
    obtain ⟨q0, q1, q2, q3, q4, q5, q6, q7, q8, q9, q10⟩ := ld11 HSB.out
    have HZ := hide (witem_zero wk ⟨Q, 0, none⟩)
    unfold zit at HZ
    go_wp2_with (go_at_call 66; refine HZ.out.mono ?_; rintro e w2 ⟨he', x2⟩; unfold pan at he'; subst he'; have X3 := hide (bt X2.out x2 (Nat.le_refl _)); clear x2)
    exact ⟨rfl, rfl, X3.out⟩
set_option maxRecDepth 100000 in
set_option maxHeartbeats 2000000 in
theorem wcatch_bad {w : World} {p2 p3 : Nat} {x2 : ByteArray} {x3 : Int} (e0 q : Int) (older : List PanicEntry) (h2 : w.heap[p2]? = some (.cells #[.string x2] 9 (0, 0))) (h3 : w.heap[p3]? = some (.cells #[.int .i64 x3] 37 (0, 0))) :
    CallsD Tryz.prog 41 #[.pointer (some ⟨p2, 0, none⟩), .pointer (some ⟨p3, 0, none⟩)] (.panicking ({ v := .iface 70 (.agg #[.int .i64 e0, .int .i64 q]), recovered := false } :: older)) w fun e u' w' =>
      e = .returned (.tuple #[]) ∧ u' = .panicking ({ v := .iface 70 (.agg #[.int .i64 e0, .int .i64 q]), recovered := true } :: older) ∧ w'.heap[p2]? = some (.cells #[.string ⟨#[]⟩] 9 (0, 0)) ∧ w'.heap[p3]? = some (.cells #[.int .i64 e0] 37 (0, 0)) ∧ Kept (fun k => k = p2 ∨ k = p3) w w' := by
  have hta := tas_ok
  have H2 := hide h2
  have H3 := hide h3
  clear h2 h3
  refine callsD_of_wpS Tryz.func41 rfl fun c₀ cs hu => ?_
  apply wpS_seq
  apply wpS_region
  simp [wpOpsS, go_sem, recoverD, hu, Tryz.ntmps41, Exit.thenS, hta]
  clear hta
  have hrep : Array.replicate 10 undef = #[undef, undef, undef, undef, undef, undef, undef, undef, undef, undef] := rfl
  simp only [hrep, List.setIfInBounds_toArray, List.set_cons_zero, List.set_cons_succ, List.append_toArray, List.cons_append, List.nil_append]
  clear hrep
  refine wpS_of_wp ?_
  go_upto_region 2 with fail
  have XW : Hid (Below w.heap.size w (w.alloc (.cells #[.int .i64 e0, .int .i64 q] 70))) := al (Below.refl _ _) _
  have PW := hide (heap_alloc_new w (.cells #[.int .i64 e0, .int .i64 q] 70))
  obtain ⟨P, hP⟩ : ∃ P, P = w.heap.size := ⟨_, rfl⟩
  rw [← hP] at PW
  rw [← hP]
  have HP := hide hP
  clear hP
  generalize w.alloc (.cells #[.int .i64 e0, .int .i64 q] 70) = W at *
  refine wp_unt (S := fun V => V.cell? ⟨P, 0, none⟩ = some (.int .i64 e0)) 3 (by kernel_rfl) ?_
  have HS0 : Hid (Below W.heap.size W W.drew) := (Below.refl _ _).drew
  have X2 := hide (bt XW.out HS0.out (Nat.le_refl _))
  have P2 := hide ((HS0.out.block P (lt_of_block PW.out)).trans PW.out)
  clear HS0 XW PW
  generalize W.drew = wd at *
  have S2 : Hid (wd.cell? ⟨P, 0, none⟩ = some (.int .i64 e0)) := by unfold Hid; rw [cell_of_row _ _ _ _ _ _ P2.out]; rfl
  have n2 : P ≠ p2 := by have := HP.out; have := lt_of_block H2.out; omega
  have n3 : P ≠ p3 := by have := HP.out; have := lt_of_block H3.out; omega
  have n32 : p3 ≠ p2 := fun e => block_ne H3.out H2.out (by decide) e
  have A2 := hide ((X2.out.block p2 (lt_of_block H2.out)).trans H2.out)
  have A3 := hide ((X2.out.block p3 (lt_of_block H3.out)).trans H3.out)
  have ks : ∀ (V : World) (b : Nat) (u : Value), Kept (fun k => k = b) V (V.setCell ⟨b, 0, none⟩ u) := fun V b u => Kept.setCell (F := fun k => k = b) (p := ⟨b, 0, none⟩) (Kept.refl _ _) rfl u
  refine UntH.take (i := 0) (some 10) rfl rfl (by kernel_rfl) (by kernel_rfl) (by kernel_rfl) (by kernel_rfl) (fun _ _ _ _ h => h) (by rfl) S2.out ?_
  apply Exists.intro
  refine ⟨fun w' hw' => ?_, ?_⟩
  · have q1 := hw'
    go_simp
    first | done | rfl
  try simp only [Act.put, List.setIfInBounds_toArray, List.set_cons_zero, List.set_cons_succ]
  refine UntH.take (i := 1) (some 11) rfl rfl (by kernel_rfl) (by kernel_rfl) (by kernel_rfl) (by kernel_rfl) (fun _ _ _ _ h => h) (by rfl) S2.out ?_
  apply Exists.intro
  refine ⟨fun w' hw' => ?_, ?_⟩
  · have q1 := hw'
    go_simp
    first | done | rfl
  try simp only [Act.put, List.setIfInBounds_toArray, List.set_cons_zero, List.set_cons_succ]
  have c7 : wd.cell? ⟨p2, 0, none⟩ = some (.string x2) := by rw [cell_of_row _ _ _ _ _ _ A2.out]; rfl
  have f7 := frozen_of_row wd p2 0 _ _ A2.out
  have k7 := ks wd p2 (.string ⟨#[]⟩)
  have b7 : (wd.setCell ⟨p2, 0, none⟩ (.string ⟨#[]⟩)).heap[p2]? = some (.cells #[(.string ⟨#[]⟩)] 9 (0, 0)) := by
    have := block_setCell' A2.out 0 (.string ⟨#[]⟩)
    simpa using this
  have Bp3 := hide ((k7.block p3 (lt_of_block A3.out) n32).trans A3.out)
  have BP := hide ((k7.block P (lt_of_block P2.out) n2).trans P2.out)
  have Bp2 := hide b7
  have K5 : Hid (Kept (fun k => k = p2 ∨ k = p3) w (wd.setCell ⟨p2, 0, none⟩ (.string ⟨#[]⟩))) := (Kept.of_below X2.out).trans (k7.mono (fun _ h => .inl h))
  have S5 : Hid ((wd.setCell ⟨p2, 0, none⟩ (.string ⟨#[]⟩)).cell? ⟨P, 0, none⟩ = some (.int .i64 e0)) := by unfold Hid; rw [cell_of_row _ _ _ _ _ _ BP.out]; rfl
  refine UntH.step (i := 2) (by kernel_rfl) rfl (fun K hK => ?_)
  go_simp
  refine hK _ _ S5.out ?_
  clear hK K c7 f7 k7 b7 A2 A3 P2 S2 X2
  generalize wd.setCell ⟨p2, 0, none⟩ (.string ⟨#[]⟩) = w5 at *
  have A2 := hide Bp2.out
  have A3 := hide Bp3.out
  clear Bp2 Bp3 BP
  have c7 : w5.cell? ⟨p3, 0, none⟩ = some (.int .i64 x3) := by rw [cell_of_row _ _ _ _ _ _ A3.out]; rfl
  have f7 := frozen_of_row w5 p3 0 _ _ A3.out
  have k7 := ks w5 p3 (.int .i64 e0)
  have b7 : (w5.setCell ⟨p3, 0, none⟩ (.int .i64 e0)).heap[p3]? = some (.cells #[(.int .i64 e0)] 37 (0, 0)) := by
    have := block_setCell' A3.out 0 (.int .i64 e0)
    simpa using this
  have Bp2 := hide ((k7.block p2 (lt_of_block A2.out) n32.symm).trans A2.out)
  have Bp3 := hide b7
  have K6 : Hid (Kept (fun k => k = p2 ∨ k = p3) w (w5.setCell ⟨p3, 0, none⟩ (.int .i64 e0))) := K5.out.trans (k7.mono (fun _ h => .inr h))
  refine UntH.last (by kernel_rfl) rfl (by kernel_rfl) (by kernel_rfl) (fun K hK => ?_)
  go_simp
  refine hK _ _ ?_
  clear hK K c7 f7 k7 b7 A2 A3 S5 K5
  generalize w5.setCell ⟨p3, 0, none⟩ (.int .i64 e0) = w7 at *
  try go_wp2
  simp [bodyPostS, results, Tryz.results41]
  exact ⟨Bp2.out, Bp3.out, K6.out⟩
set_option maxRecDepth 100000 in
set_option maxHeartbeats 2000000 in
theorem wcatch_idle (p2 p3 : Nat) (w : World) :
    CallsD Tryz.prog 41 #[.pointer (some ⟨p2, 0, none⟩), .pointer (some ⟨p3, 0, none⟩)] .returning w fun e u' w' => e = .returned (.tuple #[]) ∧ u' = .returning ∧ Below w.heap.size w w' := by
  have hta := tas_nil
  refine callsD_of_wpS Tryz.func41 rfl fun c₀ cs hu => ?_
  apply wpS_seq
  apply wpS_region
  simp [wpOpsS, go_sem, recoverD, hu, Tryz.ntmps41, Exit.thenS, hta]
  clear hta
  have hrep : Array.replicate 10 undef = #[undef, undef, undef, undef, undef, undef, undef, undef, undef, undef] := rfl
  simp only [hrep, List.setIfInBounds_toArray, List.set_cons_zero, List.set_cons_succ, List.append_toArray, List.cons_append, List.nil_append]
  clear hrep
  refine wpS_of_wp ?_
  go_wp2
  cases c₀
  simp_all [bodyPostS, results, Tryz.results41]
  exact al (Below.refl _ _) _
set_option maxRecDepth 100000 in
set_option maxHeartbeats 4000000 in
/-- Print of whatever written tells of it. -/
theorem print_by {w : World} {v : Value} {ao : Option Addr} {n cp : Nat} (hv : v = .slice ao n cp) (bad : Bool) (t : By)
    (hw : ∀ V, Below w.heap.size w V → Calls Tryz.prog 42 #[.agg #[v]] V fun e w' => (if bad = true then e = pan 93 0 else e = .returned (.string ⟨t.toArray⟩)) ∧ Below V.heap.size V w') :
    Calls Tryz.prog 20 #[.agg #[v]] w fun e w' => e = .returned (.tuple #[.string ⟨(if bad = true then [] else t).toArray⟩, .int .i64 (if bad = true then 93 else 0)]) ∧ Below w.heap.size w w' := by
  subst hv
  have hmf : ∀ (fn : Fn) (first cap : Array Value) (w : World), (Instr.makeFunc fn first cap).run Tryz.prog w = .ok (.func fn first cap) w := fun _ _ _ _ => rfl
  obtain ⟨p1, hp1⟩ : ∃ p, p = w.heap.size := ⟨_, rfl⟩
  obtain ⟨p2, hp2⟩ : ∃ p, p = w.heap.size + 1 := ⟨_, rfl⟩
  obtain ⟨p3, hp3⟩ : ∃ p, p = w.heap.size + 1 + 1 := ⟨_, rfl⟩
  obtain ⟨W, hW⟩ : ∃ W, W = ((w.alloc (.cells #[.slice ao n cp] 36)).alloc (.cells #[.string ⟨#[]⟩] 9)).alloc (.cells #[.int .i64 0] 37) := ⟨_, rfl⟩
  have X0 := hide (show Below w.heap.size w W by rw [hW]; exact al (al (al (Below.refl _ _) _) _) _)
  have A1 := hide (show W.heap[p1]? = some (.cells #[.slice ao n cp] 36 (0, 0)) by
    rw [hW, hp1]
    exact (heap_alloc_old _ _ (by simp; omega)).trans ((heap_alloc_old _ _ (by simp)).trans (heap_alloc_new w _)))
  have A2 := hide (show W.heap[p2]? = some (.cells #[.string ⟨#[]⟩] 9 (0, 0)) by
    rw [hW, hp2, show w.heap.size + 1 = (w.alloc (.cells #[.slice ao n cp] 36)).heap.size by simp]
    exact (heap_alloc_old _ _ (by simp)).trans (heap_alloc_new _ _))
  have A3 := hide (show W.heap[p3]? = some (.cells #[.int .i64 0] 37 (0, 0)) by
    rw [hW, hp3, show w.heap.size + 1 + 1 = ((w.alloc (.cells #[.slice ao n cp] 36)).alloc (.cells #[.string ⟨#[]⟩] 9)).heap.size by simp]
    exact heap_alloc_new _ _)
  have HSZ : Hid (p2 = w.heap.size + 1 ∧ p3 = w.heap.size + 2) := ⟨hp2, hp3⟩
  have HC := hide (hw W X0.out)
  clear hw
  have q1 : W.cell? ⟨p1, 0, none⟩ = some (.slice ao n cp) := by rw [cell_of_row _ _ _ _ _ _ A1.out]; rfl
  go_enter_defers Tryz.func20, Tryz.ntmps20
  go_upto_region 1 with fail
  rw [← hp3, ← hp2, ← hW, ← hp1]
  clear hW hp1 hp2 hp3
  go_upto_region 2 with fail
  cases bad with
  | true =>
    simp only [if_true] at HC ⊢
    go_wp2_with (go_at_call 42; refine HC.out.mono ?_; rintro e w6 ⟨he', x6⟩; unfold pan at he'; subst he'; have X6 := hide x6; clear x6)
    have E2 := hide ((X6.out.block p2 (lt_of_block A2.out)).trans A2.out)
    have E3 := hide ((X6.out.block p3 (lt_of_block A3.out)).trans A3.out)
    refine leaves_cons (f := 41) (args := #[.pointer (some ⟨p2, 0, none⟩), .pointer (some ⟨p3, 0, none⟩)]) (by simp) (by simp [go_sem]) ?_
    refine (wcatch_bad 93 0 [] E2.out E3.out).mono ?_
    rintro e u' w7 ⟨rfl, rfl, h2, h3, k7⟩
    have g2 : w7.cell? ⟨p2, 0, none⟩ = some (.string ⟨#[]⟩) := by rw [cell_of_row _ _ _ _ _ _ h2]; rfl
    have g3 : w7.cell? ⟨p3, 0, none⟩ = some (.int .i64 93) := by rw [cell_of_row _ _ _ _ _ _ h3]; rfl
    have X7 : Below w.heap.size w w7 := Kept.low (bt X0.out X6.out (Nat.le_refl _)) k7 (fun k hk => by have := HSZ.out; rcases hk with e | e <;> omega)
    simp only [settle]
    exact ⟨.tuple #[.string ⟨#[]⟩, .int .i64 93], by simp [results, Tryz.results20, go_sem, g2, g3], rfl, X7⟩
  | false =>
    simp only [Bool.false_eq_true, if_false] at HC ⊢
    go_wp2_with (fail)
    refine HC.out.mono ?_
    rintro e w6 ⟨rfl, x6⟩
    have X6 := hide (bt X0.out x6 (Nat.le_refl _))
    have E2 := hide ((x6.block p2 (lt_of_block A2.out)).trans A2.out)
    have E3 := hide ((x6.block p3 (lt_of_block A3.out)).trans A3.out)
    clear x6 A1 A2 A3 X0 HC q1
    have ks : ∀ (V : World) (b : Nat) (u : Value), Kept (fun k => k = b) V (V.setCell ⟨b, 0, none⟩ u) := fun V b u => Kept.setCell (F := fun k => k = b) (p := ⟨b, 0, none⟩) (Kept.refl _ _) rfl u
    have n23 : p3 ≠ p2 := by have := HSZ.out; omega
    have c2 : w6.cell? ⟨p2, 0, none⟩ = some (.string ⟨#[]⟩) := by rw [cell_of_row _ _ _ _ _ _ E2.out]; rfl
    have f2 := frozen_of_row w6 p2 0 _ _ E2.out
    have k2 := ks w6 p2 (.string ⟨t.toArray⟩)
    have F2 : Hid ((w6.setCell ⟨p2, 0, none⟩ (.string ⟨t.toArray⟩)).heap[p2]? = some (.cells #[.string ⟨t.toArray⟩] 9 (0, 0))) := by
      have := block_setCell' E2.out 0 (.string ⟨t.toArray⟩)
      simpa [Hid] using this
    have F3 := hide ((k2.block p3 (lt_of_block E3.out) n23).trans E3.out)
    obtain ⟨w7, hw7⟩ : ∃ w7, w7 = w6.setCell ⟨p2, 0, none⟩ (.string ⟨t.toArray⟩) := ⟨_, rfl⟩
    rw [← hw7] at F2 F3 k2
    have c3 : w7.cell? ⟨p3, 0, none⟩ = some (.int .i64 0) := by rw [cell_of_row _ _ _ _ _ _ F3.out]; rfl
    have f3 := frozen_of_row w7 p3 0 _ _ F3.out
    have k3 := ks w7 p3 (.int .i64 0)
    have G3 : Hid ((w7.setCell ⟨p3, 0, none⟩ (.int .i64 0)).heap[p3]? = some (.cells #[.int .i64 0] 37 (0, 0))) := by
      have := block_setCell' F3.out 0 (.int .i64 0)
      simpa [Hid] using this
    have G2 := hide ((k3.block p2 (lt_of_block F2.out) n23.symm).trans F2.out)
    obtain ⟨w8, hw8⟩ : ∃ w8, w8 = w7.setCell ⟨p3, 0, none⟩ (.int .i64 0) := ⟨_, rfl⟩
    rw [← hw8] at G2 G3 k3
    have K8 : Hid (Kept (fun k => k = p2 ∨ k = p3) w6 w8) := (k2.mono (fun _ h => .inl h)).trans (k3.mono (fun _ h => .inr h))
    have X8 : Hid (Below w.heap.size w w8) := Kept.low X6.out K8.out (fun k hk => by have := HSZ.out; rcases hk with e | e <;> omega)
    rw [hw7] at c3 f3
    rw [hw7] at hw8
    clear hw7 k2 k3 E2 E3 F2 F3 K8 X6
    go_wp2
    rw [← hw8]
    clear hw8 c2 f2 c3 f3
    refine leaves_cons (f := 41) (args := #[.pointer (some ⟨p2, 0, none⟩), .pointer (some ⟨p3, 0, none⟩)]) (by simp) (by simp [go_sem]) ?_
    refine (wcatch_idle p2 p3 w8).mono ?_
    rintro e u' wz ⟨rfl, rfl, xz⟩
    have g2 : wz.cell? ⟨p2, 0, none⟩ = some (.string ⟨t.toArray⟩) := by rw [cell_of_row _ _ _ _ _ _ ((xz.block p2 (lt_of_block G2.out)).trans G2.out)]; rfl
    have g3 : wz.cell? ⟨p3, 0, none⟩ = some (.int .i64 0) := by rw [cell_of_row _ _ _ _ _ _ ((xz.block p3 (lt_of_block G3.out)).trans G3.out)]; rfl
    simp only [settle, Leaves]
    exact ⟨.tuple #[.string ⟨t.toArray⟩, .int .i64 0], by simp [results, Tryz.results20, go_sem, g2, g3], rfl, bt X8.out xz (Nat.le_refl _)⟩
theorem print_ok {w : World} {b0 : Nat} {L : List IT} {v : Value} {cs : List Value} {bs : List Nat} {y : WS} (hl : L.length ≤ 100) (hs : ∀ x ∈ L, Smp 16 x.c) (h : PolA w b0 L v cs bs) (hx : polW L ([], true) = some y) :
    Calls Tryz.prog 20 #[.agg #[v]] w fun e w' => e = .returned (.tuple #[.string ⟨y.1.toArray⟩, .int .i64 0]) ∧ Below w.heap.size w w' := by
  obtain ⟨ao, cp, hv, _⟩ := own_shape h.row
  exact print_by hv false y.1 (fun V x => written_ok hl hs (h.below x) hx)
theorem print_zero {w : World} {b0 : Nat} {v : Value} (ho : w.ownsRow b0 62 11 v 1 zit.toList) : Calls Tryz.prog 20 #[.agg #[v]] w fun e w' => e = .returned (.tuple #[.string ⟨#[]⟩, .int .i64 93]) ∧ Below w.heap.size w w' := by
  obtain ⟨ao, cp, hv, _⟩ := own_shape ho
  exact print_by hv true [] (fun V x => written_zero (own_below ho x))
set_option maxRecDepth 100000 in
theorem right_ok {w : World} {b0 : Nat} {L : List IT} {v : Value} {cs : List Value} {bs : List Nat} {y : WS} (hl : L.length ≤ 100) (hs : ∀ x ∈ L, Smp 16 x.c) (h : PolA w b0 L v cs bs) (hx : polW L ([], true) = some y) :
    Calls Tryz.prog 22 #[.agg #[v]] w fun e w' => e = .returned (.bool true) ∧ Below w.heap.size w w' := by
  obtain ⟨ao, cp, hv, _⟩ := own_shape h.row
  subst hv
  have XW := hide (show Below w.heap.size w (w.alloc (.cells #[.slice ao L.length cp] 36)) from al (Below.refl _ _) _)
  have HB := hide (heap_alloc_new w (.cells #[.slice ao L.length cp] 36))
  have HP := hide (print_ok hl hs (h.below XW.out) hx)
  clear hl hs h hx
  generalize L.length = n at *
  obtain ⟨P, hP⟩ : ∃ P, P = w.heap.size := ⟨_, rfl⟩
  go_enter Tryz.func22, Tryz.ntmps22
  go_upto_region 1 with fail
  rw [← hP] at HB ⊢
  clear hP
  generalize w.alloc (.cells #[.slice ao n cp] 36) = W at *
  have q0 : W.cell? ⟨P, 0, none⟩ = some (.slice ao n cp) := by rw [cell_of_row _ _ _ _ _ _ HB.out]; rfl
  go_wp2_with (go_at_call 20; refine HP.out.mono ?_; rintro e w2 ⟨rfl, x2⟩; have X2 := hide (bt XW.out x2 (Nat.le_refl _)); clear x2)
  go_ret
  exact ⟨rfl, X2.out⟩
end Go.Proofs.YtlmhofjiobmodaaGreatDoor
/-
  What awake reads and prints, reckoned. No condition.
-/
namespace Go.Proofs.YtlmhofjiobmodaaGreatDoor
open Go.RowKit Go.Lib

/-- The chapter's first example. -/
def srcA : By := [108, 101, 116, 32, 97, 32, 61, 32, 110, 111, 116, 32, 40, 116, 114, 117, 101, 32, 111, 114, 32, 98, 41, 32, 97, 110, 100, 32, 112, 111, 114, 116, 32, 105, 110, 32, 123, 32, 56, 48, 44, 32, 49, 32, 45, 32, 57, 32, 125, 59]
def srcB : By := [108, 101, 116, 32, 97, 32, 61, 32, 59]
def outA : By := [108, 101, 116, 32, 97, 61, 110, 111, 116, 40, 116, 114, 117, 101, 32, 111, 114, 32, 98, 41, 97, 110, 100, 32, 112, 111, 114, 116, 32, 105, 110, 123, 56, 48, 44, 49, 45, 57, 125, 59]
def cOr : CT := .mk 6 [] [] [] [] [] [.mk 1 [] [] [] [] [] [] 13, .mk 3 [98] [] [] [] [] [] 21] 13
def cNot : CT := .mk 4 [] [] [] [] [] [cOr] 8
def cPrt : CT := .mk 8 [] [] [] [(80, 80), (1, 9)] [] [] 28
def cAnd : CT := .mk 5 [] [] [] [] [] [cNot, cPrt] 8
def polA1 : List IT := [⟨1, [97], cAnd, 0⟩]
theorem pars_A : parsQ srcA = .ok polA1 := by kernel_rfl
theorem pars_B : parsQ srcB = .error (90, 8) := by kernel_rfl
theorem prnt_A : polW polA1 ([], true) = some (outA, true) := by kernel_rfl
theorem smp_A : Smp 16 cAnd := by
  simp [Smp, cAnd, cNot, cOr, cPrt, NoM, Dg3, CT.k, CT.nm, CT.tx, CT.pre, CT.sp, CT.ns, CT.kids]
  intro a b h
  omega
theorem smpW_A : SmpW 5 cAnd := by
  simp [SmpW, cAnd, cNot, cOr, cPrt, NoM, CT.k, CT.nm, CT.tx, CT.pre, CT.sp, CT.ns, CT.kids]
/-- What awake looks at. -/
structure AwF (g g6 g7 g8 cp c6 c7 c8 : Nat) (a3 a4 a5 : Option Addr) (n3 n4 n5 : Nat) (V : World) : Prop where
  row : ∀ r, r < 8 → V.cell? ⟨g, 2 + r, none⟩ = [.int .i64 5, .string ⟨#[]⟩, .string ⟨#[]⟩, .slice a3 0 n3, .slice a4 0 n4, .slice a5 0 n5, .slice (some ⟨g6, 0, none⟩) 2 c6, .int .i64 8][r]?
  k0 : V.cell? ⟨g6, 6, none⟩ = some (.slice (some ⟨g7, 0, none⟩) 1 c7)
  k1 : V.cell? ⟨g6, 12, none⟩ = some (.slice (some ⟨g8, 0, none⟩) 2 c8)
  at_ : V.cell? ⟨g7, 7, none⟩ = some (.int .i64 13)
  s0 : V.cell? ⟨g8, 2, none⟩ = some (.int .i64 1)
  s1 : V.cell? ⟨g8, 3, none⟩ = some (.int .i64 9)
theorem aw_facts {w : World} {b0 : Nat} {v : Value} {cs : List Value} {bs : List Nat} (h : PolA w b0 polA1 v cs bs) : ∃ g g6 g7 g8 cp c6 c7 c8 a3 a4 a5 n3 n4 n5, v = .slice (some ⟨g, 0, none⟩) 1 cp ∧ ∀ V, Below w.heap.size w V → AwF g g6 g7 g8 cp c6 c7 c8 a3 a4 a5 n3 n4 n5 V := by
  obtain ⟨ao, cp, hv, hav⟩ := own_shape h.row
  obtain ⟨g, hg⟩ := hav (by decide)
  subst hg
  obtain ⟨us, bs1, hcu, hcell⟩ := h.its.get 0 (by decide)
  have hct : CtAt w b0 cAnd us bs1 := hcu
  obtain ⟨a3, n3, a4, n4, a5, n5, a6, c6, hus⟩ := hct.eight
  rw [hus] at hct
  obtain ⟨cs6, ks6, hr6, hk6, _⟩ := hct.kidsRow
  obtain ⟨a6', c6', h6, hav6⟩ := own_shape hr6
  obtain ⟨g6, hg6⟩ := hav6 (by decide)
  injection h6 with h61 _ h62
  subst hg6
  subst h61
  subst h62
  obtain ⟨v0, q0, hc0, hx0, _⟩ := hk6.get 0 (by decide)
  obtain ⟨v1, q1, hc1, hx1, _⟩ := hk6.get 1 (by decide)
  have hc0' : CtAt w b0 cNot v0 q0 := hc0
  have hc1' : CtAt w b0 cPrt v1 q1 := hc1
  obtain ⟨_, _, _, _, _, _, a7, c7, hv0⟩ := hc0'.eight
  obtain ⟨_, _, a8, c8, _, _, _, _, hv1⟩ := hc1'.eight
  rw [hv0] at hc0'
  rw [hv1] at hc1'
  obtain ⟨cs7, ks7, hr7, hk7, _⟩ := hc0'.kidsRow
  obtain ⟨a7', c7', h7, hav7⟩ := own_shape hr7
  obtain ⟨g7, hg7⟩ := hav7 (by decide)
  injection h7 with h71 _ h72
  subst hg7
  subst h71
  subst h72
  have hr8 := hc1'.spans
  obtain ⟨a8', c8', h8, hav8⟩ := own_shape hr8
  obtain ⟨g8, hg8⟩ := hav8 (by decide)
  injection h8 with h81 _ h82
  subst hg8
  subst h81
  subst h82
  obtain ⟨v7, q7, hc7, hx7, _⟩ := hk7.get 0 (by decide)
  have hc7' : CtAt w b0 cOr v7 q7 := hc7
  obtain ⟨_, _, _, _, _, _, _, _, hv7⟩ := hc7'.eight
  refine ⟨g, g6, g7, g8, cp, c6, c7, c8, a3, a4, a5, n3, n4, n5, hv, fun V y => ⟨fun r hr => ?_, ?_, ?_, ?_, ?_, ?_⟩⟩
  · have hrow := own_below h.row y
    rw [hv] at hrow
    rw [World.ownsRow.cellAt hrow (2 + r) (by show 2 + r < 1 * 11; omega)]
    have := hcell (2 + r) (by omega)
    rw [Nat.zero_mul, Nat.zero_add] at this
    rw [this, hus]
    rcases (by omega : r = 0 ∨ r = 1 ∨ r = 2 ∨ r = 3 ∨ r = 4 ∨ r = 5 ∨ r = 6 ∨ r = 7) with rfl | rfl | rfl | rfl | rfl | rfl | rfl | rfl <;> rfl
  · rw [World.ownsRow.cellAt (own_below hr6 y) 6 (by decide)]
    have := hx0 6 (by decide)
    rw [hv0] at this
    exact this
  · rw [World.ownsRow.cellAt (own_below hr6 y) 12 (by decide)]
    have := hx1 4 (by decide)
    rw [hv1] at this
    exact this
  · rw [World.ownsRow.cellAt (own_below hr7 y) 7 (by decide)]
    have := hx7 7 (by decide)
    rw [hv7] at this
    exact this
  · rw [World.ownsRow.cellAt (own_below hr8 y) 2 (by decide)]
    rfl
  · rw [World.ownsRow.cellAt (own_below hr8 y) 3 (by decide)]
    rfl
end Go.Proofs.YtlmhofjiobmodaaGreatDoor
/-
  awake answers true. Condition: what the library's variable holds lies below.
-/
namespace Go.Proofs.YtlmhofjiobmodaaGreatDoor
open Go.RowKit Go.Lib

theorem bld62 (w : World) : (Instr.build 62 #[]).run Tryz.prog w = .ok (.agg zit) w := by kernel_rfl
theorem zit_own (w : World) : (w.alloc (.cells zit 62)).ownsRow w.heap.size 62 11 (.slice (some ⟨w.heap.size, 0, none⟩) 1 1) 1 zit.toList :=
  ⟨rfl, .inr ⟨w.heap.size, 1, zit, rfl, Nat.le_refl _, heap_alloc_new w _, Nat.le_refl _, by unfold maxLen; omega, rfl, rfl⟩⟩
set_option maxRecDepth 100000 in
set_option maxHeartbeats 8000000 in
theorem awake_any (w : World) (hev : ErrV w.heap.size w) : Calls Tryz.prog 10 #[] w fun e w' => e = .returned (.bool true) ∧ Below w.heap.size w w' := by
  have HPA : Hid (Calls Tryz.prog 11 #[.string ⟨srcA.toArray⟩] w fun e w' => (∃ v cs bs, e = .returned (.tuple #[.agg #[v], .int .i64 0, .int .i64 0]) ∧ PolA w' w.heap.size polA1 v cs bs) ∧ Below w.heap.size w w') := by
    refine (parse_any srcA w hev).mono ?_
    rintro e w' ⟨h1, h2⟩
    unfold ParP at h1
    rw [pars_A] at h1
    exact ⟨h1, h2⟩
  have HPB : Hid (∀ V, Below w.heap.size w V → Calls Tryz.prog 11 #[.string ⟨srcB.toArray⟩] V fun e w' => e = .returned (.tuple #[.agg #[.slice none 0 0], .int .i64 90, .int .i64 8]) ∧ Below V.heap.size V w') := fun V y => by
    refine (parse_any srcB V (hev.up y)).mono ?_
    rintro e w' ⟨h1, h2⟩
    unfold ParP at h1
    rw [pars_B] at h1
    exact ⟨h1, h2⟩
  unfold srcA at HPA
  unfold srcB at HPB
  clear hev
  go_enter Tryz.func10, Tryz.ntmps10
  go_upto_region 1 with fail
  go_wp2_with (fail)
  refine HPA.out.mono ?_
  rintro e w1 ⟨⟨v, cs, bs, rfl, hpo⟩, x1⟩
  obtain ⟨g, g6, g7, g8, cp, c6, c7, c8, a3, a4, a5, n3, n4, n5, rfl, hf⟩ := aw_facts hpo
  have HF := hide hf
  have HPO := hide hpo
  have X1 := hide x1
  clear hpo x1 HPA hf
  have XW := hide (show Below w1.heap.size w1 (w1.alloc (.cells #[.slice (some ⟨g, 0, none⟩) 1 cp] 36)) from al (Below.refl _ _) _)
  have HB := hide (heap_alloc_new w1 (.cells #[.slice (some ⟨g, 0, none⟩) 1 cp] 36))
  go_upto_region 2 with fail
  obtain ⟨P, hP⟩ : ∃ P, P = w1.heap.size := ⟨_, rfl⟩
  rw [← hP] at HB ⊢
  clear hP
  generalize w1.alloc (.cells #[.slice (some ⟨g, 0, none⟩) 1 cp] 36) = w2 at *
  have q0 : w2.cell? ⟨P, 0, none⟩ = some (.slice (some ⟨g, 0, none⟩) 1 cp) := by rw [cell_of_row _ _ _ _ _ _ HB.out]; rfl
  have HPR := hide (print_ok (L := polA1) (y := (outA, true)) (by decide) (fun x hx => by rw [List.mem_singleton.1 hx]; exact smp_A) (HPO.out.below XW.out) prnt_A)
  unfold outA at HPR
  go_upto_region 3 with (go_at_call 20; refine HPR.out.mono ?_; rintro e w3 ⟨rfl, x3⟩; have X3 := hide x3; clear x3)
  clear HPR q0
  have XA := hide (bt XW.out X3.out (Nat.le_refl _))
  have HB3 := hide ((X3.out.block P (lt_of_block HB.out)).trans HB.out)
  clear HB X3 XW
  have HP3 := hide (HPB.out w3 (bt X1.out XA.out (Nat.le_refl _)))
  go_wp2_with (fail)
  refine HP3.out.mono ?_
  rintro e w4 ⟨rfl, x4⟩
  have X4 := hide (bt x4 (show Below w4.heap.size w4 (w4.alloc (.cells #[.slice none 0 0] 36)) from al (Below.refl _ _) _) (Nat.le_refl _))
  clear x4 HP3 HPB
  go_upto_region 4 with fail
  have XA4 := hide (bt XA.out X4.out (Nat.le_refl _))
  have HB4 := hide ((X4.out.block P (lt_of_block HB3.out)).trans HB3.out)
  generalize w4.alloc (.cells #[.slice none 0 0] 36) = w5 at *
  clear X4 XA HB3
  have hbl := bld62
  unfold zit at hbl
  have HZ := hide (print_zero (zit_own w5))
  unfold zit at HZ
  have XZ : Hid (Below w5.heap.size w5 (w5.alloc (.cells #[.int .i64 0, .string ⟨#[]⟩, .int .i64 0, .string ⟨#[]⟩, .string ⟨#[]⟩, .slice none 0 0, .slice none 0 0, .slice none 0 0, .slice none 0 0, .int .i64 0, .int .i64 0] 62))) := al (Below.refl _ _) _
  go_upto_region 5 with (go_at_call 20; refine HZ.out.mono ?_; rintro e w6 ⟨rfl, x6⟩; have X6 := hide (bt XZ.out x6 (Nat.le_refl _)); clear x6)
  clear hbl HZ XZ
  have XA6 := hide (bt XA4.out X6.out (Nat.le_refl _))
  have HB6 := hide ((X6.out.block P (lt_of_block HB4.out)).trans HB4.out)
  clear HB4 X6 XA4
  have q0 : w6.cell? ⟨P, 0, none⟩ = some (.slice (some ⟨g, 0, none⟩) 1 cp) := by rw [cell_of_row _ _ _ _ _ _ HB6.out]; rfl
  go_upto_region 7 with fail
  have HF6 := hide (HF.out w6 XA6.out)
  have r0 := HF6.out.row 0 (by omega)
  have r1 := HF6.out.row 1 (by omega)
  have r2 := HF6.out.row 2 (by omega)
  have r3 := HF6.out.row 3 (by omega)
  have r4 := HF6.out.row 4 (by omega)
  have r5 := HF6.out.row 5 (by omega)
  have r6 := HF6.out.row 6 (by omega)
  have r7 := HF6.out.row 7 (by omega)
  simp only [List.getElem?_cons_zero, List.getElem?_cons_succ] at r0 r1 r2 r3 r4 r5 r6 r7
  have HC := hide (heap_alloc_new w6 (.cells #[.int .i64 5, .string ⟨#[]⟩, .string ⟨#[]⟩, .slice a3 0 n3, .slice a4 0 n4, .slice a5 0 n5, .slice (some ⟨g6, 0, none⟩) 2 c6, .int .i64 8] 60))
  have XC : Hid (Below w6.heap.size w6 (w6.alloc (.cells #[.int .i64 5, .string ⟨#[]⟩, .string ⟨#[]⟩, .slice a3 0 n3, .slice a4 0 n4, .slice a5 0 n5, .slice (some ⟨g6, 0, none⟩) 2 c6, .int .i64 8] 60))) := al (Below.refl _ _) _
  go_upto_region 8 with fail
  clear r0 r1 r2 r3 r4 r5 r6 r7 q0 HF6
  obtain ⟨C, hC⟩ : ∃ C, C = w6.heap.size := ⟨_, rfl⟩
  rw [← hC] at HC ⊢
  clear hC
  have XA7 := hide (bt XA6.out XC.out (Nat.le_refl _))
  have HB7 := hide ((XC.out.block P (lt_of_block HB6.out)).trans HB6.out)
  clear HB6 XA6 XC
  generalize w6.alloc (.cells #[.int .i64 5, .string ⟨#[]⟩, .string ⟨#[]⟩, .slice a3 0 n3, .slice a4 0 n4, .slice a5 0 n5, .slice (some ⟨g6, 0, none⟩) 2 c6, .int .i64 8] 60) = w7 at *
  have q0 : w7.cell? ⟨P, 0, none⟩ = some (.slice (some ⟨g, 0, none⟩) 1 cp) := by rw [cell_of_row _ _ _ _ _ _ HB7.out]; rfl
  have HR := hide (right_ok (L := polA1) (y := (outA, true)) (by decide) (fun x hx => by rw [List.mem_singleton.1 hx]; exact smp_A) (HPO.out.below XA7.out) prnt_A)
  go_upto_region 9 with (go_at_call 22; refine HR.out.mono ?_; rintro e w8 ⟨rfl, x8⟩; have X8 := hide x8; clear x8)
  clear q0 HR
  have XA8 := hide (bt XA7.out X8.out (Nat.le_refl _))
  have HB8 := hide ((X8.out.block P (lt_of_block HB7.out)).trans HB7.out)
  have HC8 := hide ((X8.out.block C (lt_of_block HC.out)).trans HC.out)
  clear HB7 HC X8 XA7
  have q0 : w8.cell? ⟨P, 0, none⟩ = some (.slice (some ⟨g, 0, none⟩) 1 cp) := by rw [cell_of_row _ _ _ _ _ _ HB8.out]; rfl
  have HS := hide (sameP_self (L := polA1) (f := 5) (by decide) (fun x hx => by rw [List.mem_singleton.1 hx]; exact smpW_A) (HPO.out.below XA8.out))
  go_upto_region 10 with (go_at_call 24; refine HS.out.mono ?_; rintro e w9 ⟨rfl, x9⟩; have X9 := hide x9; clear x9)
  clear q0 HS
  have XA9 := hide (bt XA8.out X9.out (Nat.le_refl _))
  have HB9 := hide ((X9.out.block P (lt_of_block HB8.out)).trans HB8.out)
  have HC9 := hide ((X9.out.block C (lt_of_block HC8.out)).trans HC8.out)
  clear HB8 HC8 X9 XA8
  have q0 : w9.cell? ⟨P, 0, none⟩ = some (.slice (some ⟨g, 0, none⟩) 1 cp) := by rw [cell_of_row _ _ _ _ _ _ HB9.out]; rfl
  have HN := hide (sameP_none (some ⟨g, 0, none⟩) cp)
  have hes := eq68 1 9
  go_wp2_with (go_at_call 24; refine (HN.out _).mono ?_; rintro e wa ⟨rfl, xa⟩; have XAA := hide (bt XA9.out xa (Nat.le_refl _)); have HCA := hide ((xa.block C (lt_of_block HC9.out)).trans HC9.out); clear xa q0; obtain ⟨s0, s1, s2, s3, s4, s5, s6, s7⟩ := ld8 HCA.out; have hfa := HF.out _ XAA.out; have f0 := hfa.k0; have f1 := hfa.k1; have f2 := hfa.at_; have f3 := hfa.s0; have f4 := hfa.s1; clear hfa)
  go_ret
  exact ⟨rfl, bt X1.out XAA.out (Nat.le_refl _)⟩
end Go.Proofs.YtlmhofjiobmodaaGreatDoor
/-
  A token in a cell of six. No condition.
-/
namespace Go.Proofs.YtlmhofjiobmodaaGreatDoor
open Go.RowKit Go.Lib

theorem six_set {w : World} {b : Nat} {a0 a1 a2 a3 a4 a5 : Value} {T : TypeId} (h : w.heap[b]? = some (.cells #[a0, a1, a2, a3, a4, a5] T (0, 0))) (u0 u1 u2 u3 u4 u5 : Value) :
    ((((((w.setCell ⟨b, 0, none⟩ u0).setCell ⟨b, 1, none⟩ u1).setCell ⟨b, 2, none⟩ u2).setCell ⟨b, 3, none⟩ u3).setCell ⟨b, 4, none⟩ u4).setCell ⟨b, 5, none⟩ u5).heap[b]? = some (.cells #[u0, u1, u2, u3, u4, u5] T (0, 0)) :=
  block_setCell' (block_setCell' (block_setCell' (block_setCell' (block_setCell' (block_setCell' h 0 u0) 1 u1) 2 u2) 3 u3) 4 u4) 5 u5
theorem six_get {w : World} {b : Nat} {a0 a1 a2 a3 a4 a5 : Value} {T : TypeId} (h : w.heap[b]? = some (.cells #[a0, a1, a2, a3, a4, a5] T (0, 0))) :
    (w.cell? ⟨b, 0, none⟩ = some a0 ∧ w.cell? ⟨b, 1, none⟩ = some a1 ∧ w.cell? ⟨b, 2, none⟩ = some a2 ∧ w.cell? ⟨b, 3, none⟩ = some a3 ∧ w.cell? ⟨b, 4, none⟩ = some a4 ∧ w.cell? ⟨b, 5, none⟩ = some a5) :=
  ⟨by rw [cell_of_row w b 0 _ _ _ h]; rfl, by rw [cell_of_row w b 1 _ _ _ h]; rfl, by rw [cell_of_row w b 2 _ _ _ h]; rfl, by rw [cell_of_row w b 3 _ _ _ h]; rfl, by rw [cell_of_row w b 4 _ _ _ h]; rfl, by rw [cell_of_row w b 5 _ _ _ h]; rfl⟩
end Go.Proofs.YtlmhofjiobmodaaGreatDoor
/-
  A token held against itself; bare by its contract. No condition.
-/
namespace Go.Proofs.YtlmhofjiobmodaaGreatDoor
open Go.RowKit Go.Lib

theorem fields40 : Tryz.prog.fieldsOf 49 = #[⟨"Kind", 3, 0, false, "", "", 0⟩, ⟨"Text", 9, 1, false, "", "", 8⟩, ⟨"Number", 3, 2, false, "", "", 24⟩, ⟨"Prefix", 47, 3, false, "", "", 32⟩, ⟨"At", 3, 5, false, "", "", 48⟩] := by kernel_rfl
theorem fields38 : Tryz.prog.fieldsOf 47 = #[⟨"Addr", 3, 0, false, "", "", 0⟩, ⟨"Bits", 3, 1, false, "", "", 8⟩] := by kernel_rfl
theorem und40 : Tryz.prog.underlying 49 = some (.struct (Tryz.prog.fieldsOf 49)) := by kernel_rfl
theorem und38 : Tryz.prog.underlying 47 = some (.struct (Tryz.prog.fieldsOf 47)) := by kernel_rfl
theorem held40 : Tryz.prog.stoodInHeld 49 = false := by kernel_rfl
theorem held38 : Tryz.prog.stoodInHeld 47 = false := by kernel_rfl
theorem eq38 (n : Nat) (a b : Int) (w : World) : (Op.equalIn (n + 1 + 1) 47 (.agg #[.int .i64 a, .int .i64 b]) (.agg #[.int .i64 a, .int .i64 b])).run Tryz.prog w = .ok true w := by
  have h3 : ∀ (x : Int) w, (Op.equalIn (n + 1) 3 (.int .i64 x) (.int .i64 x)).run Tryz.prog w = .ok true w := fun x w => by rw [run_equalIn_int w n 3 .i64 .i64 x x Tryz.underlying3]; simp
  have p0 : ∀ w, (part 3 #[.int .i64 a, .int .i64 b] 0).run Tryz.prog w = .ok (.int .i64 a) w := fun w => by kernel_rfl
  have p1 : ∀ w, (part 3 #[.int .i64 a, .int .i64 b] 1).run Tryz.prog w = .ok (.int .i64 b) w := fun w => by kernel_rfl
  rw [run_equalIn_struct w (n + 1) 47 _ _ und38 held38, fields38]
  simp [Op.eqFields, Sem.run_bind, p0, p1, h3]
theorem eq40 (x : Tk) (w : World) : (Op.equalIn 10000 49 (.agg (tkV x)) (.agg (tkV x))).run Tryz.prog w = .ok true w := by
  have h3 : ∀ (x : Int) w, (Op.equalIn 9999 3 (.int .i64 x) (.int .i64 x)).run Tryz.prog w = .ok true w := fun x w => by rw [show (9999 : Nat) = 9998 + 1 from rfl, run_equalIn_int w 9998 3 .i64 .i64 x x Tryz.underlying3]; simp
  have h9 : ∀ (x : ByteArray) w, (Op.equalIn 9999 9 (.string x) (.string x)).run Tryz.prog w = .ok true w := fun x w => by rw [show (9999 : Nat) = 9998 + 1 from rfl, run_equalIn_string w 9998 9 x x Tryz.underlying9]; simp
  have h38 : ∀ (a b : Int) w, (Op.equalIn 9999 47 (.agg #[.int .i64 a, .int .i64 b]) (.agg #[.int .i64 a, .int .i64 b])).run Tryz.prog w = .ok true w := fun a b w => eq38 9997 a b w
  have p0 : ∀ w, (part 3 (tkV x) 0).run Tryz.prog w = .ok (.int .i64 x.k) w := fun w => by kernel_rfl
  have p1 : ∀ w, (part 9 (tkV x) 1).run Tryz.prog w = .ok (.string ⟨x.t.toArray⟩) w := fun w => by kernel_rfl
  have p2 : ∀ w, (part 3 (tkV x) 2).run Tryz.prog w = .ok (.int .i64 x.n) w := fun w => by kernel_rfl
  have p3 : ∀ w, (part 47 (tkV x) 3).run Tryz.prog w = .ok (.agg #[.int .i64 x.a, .int .i64 x.b]) w := fun w => by kernel_rfl
  have p5 : ∀ w, (part 3 (tkV x) 5).run Tryz.prog w = .ok (.int .i64 x.p) w := fun w => by kernel_rfl
  rw [show (10000 : Nat) = 9999 + 1 from rfl, run_equalIn_struct w 9999 49 _ _ und40 held40, fields40]
  simp [Op.eqFields, Sem.run_bind, p0, p1, p2, p3, p5, h3, h9, h38]
/-- A token without its place. -/
def bareT (x : Tk) : Tk := { x with p := 0 }
theorem tkC_cons (x : Tk) (L : List Tk) : tkC (x :: L) = (tkV x).toList ++ tkC L := rfl
theorem tkC_getE : ∀ (L : List Tk) (i : Nat) (hi : i < L.length) (j : Nat), j < 6 → (tkC L)[i * 6 + j]? = (tkV L[i]).toList[j]?
  | [], i, hi, _, _ => absurd hi (by simp)
  | x :: L, 0, _, j, hj => by
    rw [tkC_cons, Nat.zero_mul, Nat.zero_add, List.getElem?_append_left (by show j < 6; exact hj)]
    rfl
  | x :: L, i + 1, hi, j, hj => by
    rw [tkC_cons, List.getElem?_append_right (by show 6 ≤ _; omega)]
    show (tkC L)[(i + 1) * 6 + j - 6]? = _
    rw [show (i + 1) * 6 + j - 6 = i * 6 + j by omega]
    exact tkC_getE L i (by simpa using hi) j hj
/-- A token of a row. -/
theorem tk_at {w : World} {base g cap n : Nat} {L : List Tk} (h : w.ownsRow base 49 6 (.slice (some ⟨g, 0, none⟩) n cap) n (tkC L)) {i : Nat} (hi : i < L.length) {x : Tk} (hx : L[i] = x) :
    w.cell? ⟨g, i * 6, none⟩ = some (.int .i64 x.k) ∧ w.cell? ⟨g, i * 6 + 1, none⟩ = some (.string ⟨x.t.toArray⟩) ∧ w.cell? ⟨g, i * 6 + 2, none⟩ = some (.int .i64 x.n) ∧ w.cell? ⟨g, i * 6 + 3, none⟩ = some (.int .i64 x.a) ∧ w.cell? ⟨g, i * 6 + 4, none⟩ = some (.int .i64 x.b) ∧ w.cell? ⟨g, i * 6 + 5, none⟩ = some (.int .i64 x.p) := by
  subst hx
  have key : ∀ j v, j < 6 → (tkV L[i]).toList[j]? = some v → w.cell? ⟨g, i * 6 + j, none⟩ = some v := fun j v hj hv => by
    have := h.cells (g := g) rfl (i * 6 + j) v (by rw [tkC_getE L i hi j hj]; exact hv)
    rw [show (⟨g, 0, none⟩ : Addr).add (i * 6 + j) = ⟨g, 0 + (i * 6 + j), none⟩ by unfold Addr.add; split <;> simp_all] at this
    rwa [Nat.zero_add] at this
  exact ⟨key 0 _ (by omega) rfl, key 1 _ (by omega) rfl, key 2 _ (by omega) rfl, key 3 _ (by omega) rfl, key 4 _ (by omega) rfl, key 5 _ (by omega) rfl⟩
end Go.Proofs.YtlmhofjiobmodaaGreatDoor
