/-
  makes by its contract: a step that answers a ref, in both arenas: Not, And, Or, Xor, Restrict. No condition.
-/
import Derived.Test.YtaafeflbanoncaaP35
import Derived.Test.YtaafeflbanoncaaP37
namespace Go.Proofs.Ytaafeflbanoncaa
open Go.RowKit Go.Lib Go.Maps

section
variable {w : World} {a x wb : Nat} {S : List Int} {M : Int} {N : List Nd} {P Q : Nat → Prop} {G : Int × Int × List Nd} {lv : Value}
set_option maxRecDepth 100000 in
set_option maxHeartbeats 4000000 in
theorem makes_2 {zn : Bool} {zf zg zh zl zc : Int} {iv cv : Value} (h : SD w a x S M N N P Q) (hb : WBk w wb a x lv) (np : ¬ P wb) (nq : ¬ Q wb)
    (hc : ∀ W, CA W a S M N 8192 P → Calls Try.prog 25 #[.pointer (some ⟨a, 0, none⟩), .int .i64 zf] W fun e w' => CQ a S M N P G W e w')
    (hd : ∀ W, RA W x S M N Q → Calls Try.prog 37 #[.pointer (some ⟨x, 0, none⟩), .int .i64 zf] W fun e w' => DQ x S M Q G W e w') :
    Calls Try.prog 12 #[.pointer (some ⟨wb, 0, none⟩), .agg #[.bool zn, .int .i64 2, .int .i64 zf, .int .i64 zg, .int .i64 zh, .int .i64 zl, .int .i64 zc, iv, cv]] w fun e w' => MzL a x S M N P Q G w e w' := by
  have y1 : Below w.heap.size w (w.alloc (.cells #[.bool zn, .int .i64 2, .int .i64 zf, .int .i64 zg, .int .i64 zh, .int .i64 zl, .int .i64 zc, iv, cv] 38)) := al (Below.refl _ _) _
  have bx1 : Bx (w.alloc (.cells #[.bool zn, .int .i64 2, .int .i64 zf, .int .i64 zg, .int .i64 zh, .int .i64 zl, .int .i64 zc, iv, cv] 38)) w.heap.size zn 2 zf zg zh zl zc iv cv := heap_alloc_new w _
  have H1 := hide (h.below y1)
  have W1 : Hid (WBk (w.alloc (.cells #[.bool zn, .int .i64 2, .int .i64 zf, .int .i64 zg, .int .i64 zh, .int .i64 zl, .int .i64 zc, iv, cv] 38)) wb a x lv) := (y1.block _ (lt_of_block hb)).trans hb
  have B1 := hide bx1
  have Y1 := hide y1
  have OB : Hid (∃ ob, ob = w.heap.size ∧ ¬ P ob ∧ ¬ Q ob) := ⟨_, rfl, fun hp => by have := h.ca.plt hp; omega, fun hq => by have := h.ra.plt hq; omega⟩
  have HC := hide hc
  have HD := hide hd
  have NP := hide np
  have NQ := hide nq
  clear h hb np nq hc hd y1 bx1
  go_enter Try.func12, Try.ntmps12
  go_upto_region 1 with fail
  generalize w.alloc (.cells #[.bool zn, .int .i64 2, .int .i64 zf, .int .i64 zg, .int .i64 zh, .int .i64 zl, .int .i64 zc, iv, cv] 38) = w1 at *
  obtain ⟨ob, hob, hpo, hqo⟩ := OB.out
  rw [← hob] at B1
  try rw [← hob]
  have NPO := hide hpo
  have NQO := hide hqo
  clear hob hpo hqo OB
  obtain ⟨o0, o1, o2, o3, o4, o5, o6, o7, o8⟩ := B1.out.cells
  go_upto_region 3 with fail
  clear o0 o1 o2 o3 o4 o5 o6 o7 o8
  have H2 : Hid (SD w1.drew a x S M N N P Q) := H1.out.below (Below.refl _ _).drew
  have W2 : Hid (WBk w1.drew wb a x lv) := W1.out
  have B2 : Hid (Bx w1.drew ob zn 2 zf zg zh zl zc iv cv) := B1.out
  have Y2 : Hid (Below w.heap.size w w1.drew) := Y1.out.drew
  refine wp_unt (S := fun V => V.cell? ⟨wb, 0, none⟩ = some (.pointer (some ⟨a, 0, none⟩)) ∧ V.cell? ⟨ob, 2, none⟩ = some (.int .i64 zf)) 11 (by kernel_rfl) ?_
  generalize w1.drew = w2 at *
  clear H1 W1 B1 Y1
  have HS2 : Hid (w2.cell? ⟨wb, 0, none⟩ = some (.pointer (some ⟨a, 0, none⟩)) ∧ w2.cell? ⟨ob, 2, none⟩ = some (.int .i64 zf)) := by have BX := B2.out; exact ⟨(W2.out).cells.1, BX.cells.2.2.1⟩
  refine UntH.take (i := 0) (some 39) rfl rfl (by kernel_rfl) (by kernel_rfl) (by kernel_rfl) (by kernel_rfl) (fun _ _ _ _ h => h) (by rfl) HS2.out ?_
  apply Exists.intro
  refine ⟨fun w' hw' => ?_, ?_⟩
  · (obtain ⟨q0, q1⟩ := hw')
    go_simp
    first | done | rfl
  try simp only [Act.put, List.setIfInBounds_toArray, List.set_cons_zero, List.set_cons_succ]
  refine UntH.take (i := 1) (some 40) rfl rfl (by kernel_rfl) (by kernel_rfl) (by kernel_rfl) (by kernel_rfl) (fun _ _ _ _ h => h) (by rfl) HS2.out ?_
  apply Exists.intro
  refine ⟨fun w' hw' => ?_, ?_⟩
  · (obtain ⟨q0, q1⟩ := hw')
    go_simp
    first | done | rfl
  try simp only [Act.put, List.setIfInBounds_toArray, List.set_cons_zero, List.set_cons_succ]
  refine UntH.take (i := 2) (some 41) rfl rfl (by kernel_rfl) (by kernel_rfl) (by kernel_rfl) (by kernel_rfl) (fun _ _ _ _ h => h) (by rfl) HS2.out ?_
  apply Exists.intro
  refine ⟨fun w' hw' => ?_, ?_⟩
  · (obtain ⟨q0, q1⟩ := hw')
    go_simp
    first | done | rfl
  try simp only [Act.put, List.setIfInBounds_toArray, List.set_cons_zero, List.set_cons_succ]
  refine UntH.take (i := 3) (some 42) rfl rfl (by kernel_rfl) (by kernel_rfl) (by kernel_rfl) (by kernel_rfl) (fun _ _ _ _ h => h) (by rfl) HS2.out ?_
  apply Exists.intro
  refine ⟨fun w' hw' => ?_, ?_⟩
  · (obtain ⟨q0, q1⟩ := hw')
    go_simp
    first | done | rfl
  try simp only [Act.put, List.setIfInBounds_toArray, List.set_cons_zero, List.set_cons_succ]
  refine UntH.take (i := 4) (some 43) rfl rfl (by kernel_rfl) (by kernel_rfl) (by kernel_rfl) (by kernel_rfl) (fun _ _ _ _ h => h) (by rfl) HS2.out ?_
  apply Exists.intro
  refine ⟨fun w' hw' => ?_, ?_⟩
  · (obtain ⟨q0, q1⟩ := hw')
    go_simp
    first | done | rfl
  try simp only [Act.put, List.setIfInBounds_toArray, List.set_cons_zero, List.set_cons_succ]
  refine UntH.take (i := 5) (some 44) rfl rfl (by kernel_rfl) (by kernel_rfl) (by kernel_rfl) (by kernel_rfl) (fun _ _ _ _ h => h) (by rfl) HS2.out ?_
  apply Exists.intro
  refine ⟨fun w' hw' => ?_, ?_⟩
  · (obtain ⟨q0, q1⟩ := hw')
    go_simp
    first | done | rfl
  try simp only [Act.put, List.setIfInBounds_toArray, List.set_cons_zero, List.set_cons_succ]
  refine UntH.step (i := 6) (by kernel_rfl) rfl (fun K hK => ?_)
  go_simp
  refine (HC.out _ H2.out.ca).mono ?_
  rintro e w3 cq
  obtain ⟨P3, rfl, h3, k3, g3, ok3⟩ := H2.out.code cq
  have H3 := hide h3
  have K3 := hide k3
  have G3 := hide g3
  have OK3 := hide ok3
  clear cq h3 k3 g3 ok3
  have W3 : Hid (WBk w3 wb a x lv) := (K3.out.block _ (lt_of_block W2.out) NP.out).trans W2.out
  have B3 := hide (B2.out.kept K3.out NPO.out)
  have HS3 : Hid (w3.cell? ⟨wb, 0, none⟩ = some (.pointer (some ⟨a, 0, none⟩)) ∧ w3.cell? ⟨ob, 2, none⟩ = some (.int .i64 zf)) := by have BX := B3.out; exact ⟨(W3.out).cells.1, BX.cells.2.2.1⟩
  go_simp
  refine hK _ _ HS3.out ?_
  clear hK K HC HS2
  refine UntH.take (i := 7) (some 38) rfl rfl (by kernel_rfl) (by kernel_rfl) (by kernel_rfl) (by kernel_rfl) (fun _ _ _ _ h => h) (by rfl) HS3.out ?_
  apply Exists.intro
  refine ⟨fun w' hw' => ?_, ?_⟩
  · (obtain ⟨q0, q1⟩ := hw')
    go_simp
    first | done | rfl
  try simp only [Act.put, List.setIfInBounds_toArray, List.set_cons_zero, List.set_cons_succ]
  refine UntH.take (i := 8) (some 46) rfl rfl (by kernel_rfl) (by kernel_rfl) (by kernel_rfl) (by kernel_rfl) (fun _ _ _ _ h => h) (by rfl) HS3.out ?_
  apply Exists.intro
  refine ⟨fun w' hw' => ?_, ?_⟩
  · (obtain ⟨q0, q1⟩ := hw')
    go_simp
    first | done | rfl
  try simp only [Act.put, List.setIfInBounds_toArray, List.set_cons_zero, List.set_cons_succ]
  refine UntH.take (i := 9) (some 47) rfl rfl (by kernel_rfl) (by kernel_rfl) (by kernel_rfl) (by kernel_rfl) (fun _ _ _ _ h => h) (by rfl) HS3.out ?_
  apply Exists.intro
  refine ⟨fun w' hw' => ?_, ?_⟩
  · (obtain ⟨q0, q1⟩ := hw')
    go_simp
    first | done | rfl
  try simp only [Act.put, List.setIfInBounds_toArray, List.set_cons_zero, List.set_cons_succ]
  refine UntH.take (i := 10) (some 8) rfl rfl (by kernel_rfl) (by kernel_rfl) (by kernel_rfl) (by kernel_rfl) (fun _ _ _ _ h => h) (by rfl) HS3.out ?_
  apply Exists.intro
  refine ⟨fun w' hw' => ?_, ?_⟩
  · (obtain ⟨q0, q1⟩ := hw')
    go_simp
    first | done | rfl
  try simp only [Act.put, List.setIfInBounds_toArray, List.set_cons_zero, List.set_cons_succ]
  refine UntH.last (by kernel_rfl) rfl (by kernel_rfl) (by kernel_rfl) (fun K hK => ?_)
  go_simp
  refine hK _ _ ?_
  clear hK K HS3 H2 W2 B2
  go_upto_region 4 with fail
  have H4 : Hid (SD w3.drew a x S M G.2.2 N P3 Q) := H3.out.below (Below.refl _ _).drew
  have W4 : Hid (WBk w3.drew wb a x lv) := W3.out
  have B4 : Hid (Bx w3.drew ob zn 2 zf zg zh zl zc iv cv) := B3.out
  have K4 : Hid (Kept P w2 w3.drew) := K3.out.drew
  refine wp_unt (S := fun V => V.cell? ⟨wb, 1, none⟩ = some (.pointer (some ⟨x, 0, none⟩)) ∧ V.cell? ⟨ob, 2, none⟩ = some (.int .i64 zf)) 11 (by kernel_rfl) ?_
  generalize w3.drew = w4 at *
  clear H3 W3 B3 K3
  have HS4 : Hid (w4.cell? ⟨wb, 1, none⟩ = some (.pointer (some ⟨x, 0, none⟩)) ∧ w4.cell? ⟨ob, 2, none⟩ = some (.int .i64 zf)) := by have BX := B4.out; exact ⟨(W4.out).cells.2.1, BX.cells.2.2.1⟩
  refine UntH.take (i := 0) (some 49) rfl rfl (by kernel_rfl) (by kernel_rfl) (by kernel_rfl) (by kernel_rfl) (fun _ _ _ _ h => h) (by rfl) HS4.out ?_
  apply Exists.intro
  refine ⟨fun w' hw' => ?_, ?_⟩
  · (obtain ⟨q0, q1⟩ := hw')
    go_simp
    first | done | rfl
  try simp only [Act.put, List.setIfInBounds_toArray, List.set_cons_zero, List.set_cons_succ]
  refine UntH.take (i := 1) (some 50) rfl rfl (by kernel_rfl) (by kernel_rfl) (by kernel_rfl) (by kernel_rfl) (fun _ _ _ _ h => h) (by rfl) HS4.out ?_
  apply Exists.intro
  refine ⟨fun w' hw' => ?_, ?_⟩
  · (obtain ⟨q0, q1⟩ := hw')
    go_simp
    first | done | rfl
  try simp only [Act.put, List.setIfInBounds_toArray, List.set_cons_zero, List.set_cons_succ]
  refine UntH.take (i := 2) (some 51) rfl rfl (by kernel_rfl) (by kernel_rfl) (by kernel_rfl) (by kernel_rfl) (fun _ _ _ _ h => h) (by rfl) HS4.out ?_
  apply Exists.intro
  refine ⟨fun w' hw' => ?_, ?_⟩
  · (obtain ⟨q0, q1⟩ := hw')
    go_simp
    first | done | rfl
  try simp only [Act.put, List.setIfInBounds_toArray, List.set_cons_zero, List.set_cons_succ]
  refine UntH.take (i := 3) (some 52) rfl rfl (by kernel_rfl) (by kernel_rfl) (by kernel_rfl) (by kernel_rfl) (fun _ _ _ _ h => h) (by rfl) HS4.out ?_
  apply Exists.intro
  refine ⟨fun w' hw' => ?_, ?_⟩
  · (obtain ⟨q0, q1⟩ := hw')
    go_simp
    first | done | rfl
  try simp only [Act.put, List.setIfInBounds_toArray, List.set_cons_zero, List.set_cons_succ]
  refine UntH.take (i := 4) (some 53) rfl rfl (by kernel_rfl) (by kernel_rfl) (by kernel_rfl) (by kernel_rfl) (fun _ _ _ _ h => h) (by rfl) HS4.out ?_
  apply Exists.intro
  refine ⟨fun w' hw' => ?_, ?_⟩
  · (obtain ⟨q0, q1⟩ := hw')
    go_simp
    first | done | rfl
  try simp only [Act.put, List.setIfInBounds_toArray, List.set_cons_zero, List.set_cons_succ]
  refine UntH.take (i := 5) (some 54) rfl rfl (by kernel_rfl) (by kernel_rfl) (by kernel_rfl) (by kernel_rfl) (fun _ _ _ _ h => h) (by rfl) HS4.out ?_
  apply Exists.intro
  refine ⟨fun w' hw' => ?_, ?_⟩
  · (obtain ⟨q0, q1⟩ := hw')
    go_simp
    first | done | rfl
  try simp only [Act.put, List.setIfInBounds_toArray, List.set_cons_zero, List.set_cons_succ]
  refine UntH.step (i := 6) (by kernel_rfl) rfl (fun K hK => ?_)
  go_simp
  refine (HD.out _ H4.out.ra).mono ?_
  rintro e w5 dq
  obtain ⟨Q5, rfl, h5, k5, g5⟩ := H4.out.doc dq
  have H5 := hide h5
  have K5 := hide k5
  have G5 := hide g5
  clear dq h5 k5 g5
  have W5 : Hid (WBk w5 wb a x lv) := (K5.out.block _ (lt_of_block W4.out) NQ.out).trans W4.out
  have B5 := hide (B4.out.kept K5.out NQO.out)
  have HS5 : Hid (w5.cell? ⟨wb, 1, none⟩ = some (.pointer (some ⟨x, 0, none⟩)) ∧ w5.cell? ⟨ob, 2, none⟩ = some (.int .i64 zf)) := by have BX := B5.out; exact ⟨(W5.out).cells.2.1, BX.cells.2.2.1⟩
  go_simp
  refine hK _ _ HS5.out ?_
  clear hK K HD HS4
  refine UntH.take (i := 7) (some 48) rfl rfl (by kernel_rfl) (by kernel_rfl) (by kernel_rfl) (by kernel_rfl) (fun _ _ _ _ h => h) (by rfl) HS5.out ?_
  apply Exists.intro
  refine ⟨fun w' hw' => ?_, ?_⟩
  · (obtain ⟨q0, q1⟩ := hw')
    go_simp
    first | done | rfl
  try simp only [Act.put, List.setIfInBounds_toArray, List.set_cons_zero, List.set_cons_succ]
  refine UntH.take (i := 8) (some 56) rfl rfl (by kernel_rfl) (by kernel_rfl) (by kernel_rfl) (by kernel_rfl) (fun _ _ _ _ h => h) (by rfl) HS5.out ?_
  apply Exists.intro
  refine ⟨fun w' hw' => ?_, ?_⟩
  · (obtain ⟨q0, q1⟩ := hw')
    go_simp
    first | done | rfl
  try simp only [Act.put, List.setIfInBounds_toArray, List.set_cons_zero, List.set_cons_succ]
  refine UntH.take (i := 9) (some 57) rfl rfl (by kernel_rfl) (by kernel_rfl) (by kernel_rfl) (by kernel_rfl) (fun _ _ _ _ h => h) (by rfl) HS5.out ?_
  apply Exists.intro
  refine ⟨fun w' hw' => ?_, ?_⟩
  · (obtain ⟨q0, q1⟩ := hw')
    go_simp
    first | done | rfl
  try simp only [Act.put, List.setIfInBounds_toArray, List.set_cons_zero, List.set_cons_succ]
  refine UntH.take (i := 10) (some 10) rfl rfl (by kernel_rfl) (by kernel_rfl) (by kernel_rfl) (by kernel_rfl) (fun _ _ _ _ h => h) (by rfl) HS5.out ?_
  apply Exists.intro
  refine ⟨fun w' hw' => ?_, ?_⟩
  · (obtain ⟨q0, q1⟩ := hw')
    go_simp
    first | done | rfl
  try simp only [Act.put, List.setIfInBounds_toArray, List.set_cons_zero, List.set_cons_succ]
  refine UntH.last (by kernel_rfl) rfl (by kernel_rfl) (by kernel_rfl) (fun K hK => ?_)
  go_simp
  refine hK _ _ ?_
  clear hK K HS5
  have FIN := hide (MzL.of Y2.out K4.out G3.out K5.out G5.out H5.out OK3.out)
  clear W4 B4 W5 B5 H4 H5 K4 K5 G3 G5 OK3 NP NQ NPO NQO Y2
  go_wp2
  refine bodyPost_ret (by simp [results, Try.results12, go_sem]; try rfl) rfl ?_
  exact FIN.out
set_option maxRecDepth 100000 in
set_option maxHeartbeats 4000000 in
theorem makes_3 {zn : Bool} {zf zg zh zl zc : Int} {iv cv : Value} (h : SD w a x S M N N P Q) (hb : WBk w wb a x lv) (np : ¬ P wb) (nq : ¬ Q wb)
    (hc : ∀ W, CA W a S M N 8192 P → Calls Try.prog 24 #[.pointer (some ⟨a, 0, none⟩), .int .i64 zf, .int .i64 zg] W fun e w' => CQ a S M N P G W e w')
    (hd : ∀ W, RA W x S M N Q → Calls Try.prog 38 #[.pointer (some ⟨x, 0, none⟩), .int .i64 zf, .int .i64 zg] W fun e w' => DQ x S M Q G W e w') :
    Calls Try.prog 12 #[.pointer (some ⟨wb, 0, none⟩), .agg #[.bool zn, .int .i64 3, .int .i64 zf, .int .i64 zg, .int .i64 zh, .int .i64 zl, .int .i64 zc, iv, cv]] w fun e w' => MzL a x S M N P Q G w e w' := by
  have y1 : Below w.heap.size w (w.alloc (.cells #[.bool zn, .int .i64 3, .int .i64 zf, .int .i64 zg, .int .i64 zh, .int .i64 zl, .int .i64 zc, iv, cv] 38)) := al (Below.refl _ _) _
  have bx1 : Bx (w.alloc (.cells #[.bool zn, .int .i64 3, .int .i64 zf, .int .i64 zg, .int .i64 zh, .int .i64 zl, .int .i64 zc, iv, cv] 38)) w.heap.size zn 3 zf zg zh zl zc iv cv := heap_alloc_new w _
  have H1 := hide (h.below y1)
  have W1 : Hid (WBk (w.alloc (.cells #[.bool zn, .int .i64 3, .int .i64 zf, .int .i64 zg, .int .i64 zh, .int .i64 zl, .int .i64 zc, iv, cv] 38)) wb a x lv) := (y1.block _ (lt_of_block hb)).trans hb
  have B1 := hide bx1
  have Y1 := hide y1
  have OB : Hid (∃ ob, ob = w.heap.size ∧ ¬ P ob ∧ ¬ Q ob) := ⟨_, rfl, fun hp => by have := h.ca.plt hp; omega, fun hq => by have := h.ra.plt hq; omega⟩
  have HC := hide hc
  have HD := hide hd
  have NP := hide np
  have NQ := hide nq
  clear h hb np nq hc hd y1 bx1
  go_enter Try.func12, Try.ntmps12
  go_upto_region 1 with fail
  generalize w.alloc (.cells #[.bool zn, .int .i64 3, .int .i64 zf, .int .i64 zg, .int .i64 zh, .int .i64 zl, .int .i64 zc, iv, cv] 38) = w1 at *
  obtain ⟨ob, hob, hpo, hqo⟩ := OB.out
  rw [← hob] at B1
  try rw [← hob]
  have NPO := hide hpo
  have NQO := hide hqo
  clear hob hpo hqo OB
  obtain ⟨o0, o1, o2, o3, o4, o5, o6, o7, o8⟩ := B1.out.cells
  go_upto_region 7 with fail
  clear o0 o1 o2 o3 o4 o5 o6 o7 o8
  have H2 : Hid (SD w1.drew a x S M N N P Q) := H1.out.below (Below.refl _ _).drew
  have W2 : Hid (WBk w1.drew wb a x lv) := W1.out
  have B2 : Hid (Bx w1.drew ob zn 3 zf zg zh zl zc iv cv) := B1.out
  have Y2 : Hid (Below w.heap.size w w1.drew) := Y1.out.drew
  refine wp_unt (S := fun V => V.cell? ⟨wb, 0, none⟩ = some (.pointer (some ⟨a, 0, none⟩)) ∧ V.cell? ⟨ob, 2, none⟩ = some (.int .i64 zf) ∧ V.cell? ⟨ob, 3, none⟩ = some (.int .i64 zg)) 13 (by kernel_rfl) ?_
  generalize w1.drew = w2 at *
  clear H1 W1 B1 Y1
  have HS2 : Hid (w2.cell? ⟨wb, 0, none⟩ = some (.pointer (some ⟨a, 0, none⟩)) ∧ w2.cell? ⟨ob, 2, none⟩ = some (.int .i64 zf) ∧ w2.cell? ⟨ob, 3, none⟩ = some (.int .i64 zg)) := by have BX := B2.out; exact ⟨(W2.out).cells.1, BX.cells.2.2.1, BX.cells.2.2.2.1⟩
  refine UntH.take (i := 0) (some 65) rfl rfl (by kernel_rfl) (by kernel_rfl) (by kernel_rfl) (by kernel_rfl) (fun _ _ _ _ h => h) (by rfl) HS2.out ?_
  apply Exists.intro
  refine ⟨fun w' hw' => ?_, ?_⟩
  · (obtain ⟨q0, q1, q2⟩ := hw')
    go_simp
    first | done | rfl
  try simp only [Act.put, List.setIfInBounds_toArray, List.set_cons_zero, List.set_cons_succ]
  refine UntH.take (i := 1) (some 66) rfl rfl (by kernel_rfl) (by kernel_rfl) (by kernel_rfl) (by kernel_rfl) (fun _ _ _ _ h => h) (by rfl) HS2.out ?_
  apply Exists.intro
  refine ⟨fun w' hw' => ?_, ?_⟩
  · (obtain ⟨q0, q1, q2⟩ := hw')
    go_simp
    first | done | rfl
  try simp only [Act.put, List.setIfInBounds_toArray, List.set_cons_zero, List.set_cons_succ]
  refine UntH.take (i := 2) (some 67) rfl rfl (by kernel_rfl) (by kernel_rfl) (by kernel_rfl) (by kernel_rfl) (fun _ _ _ _ h => h) (by rfl) HS2.out ?_
  apply Exists.intro
  refine ⟨fun w' hw' => ?_, ?_⟩
  · (obtain ⟨q0, q1, q2⟩ := hw')
    go_simp
    first | done | rfl
  try simp only [Act.put, List.setIfInBounds_toArray, List.set_cons_zero, List.set_cons_succ]
  refine UntH.take (i := 3) (some 68) rfl rfl (by kernel_rfl) (by kernel_rfl) (by kernel_rfl) (by kernel_rfl) (fun _ _ _ _ h => h) (by rfl) HS2.out ?_
  apply Exists.intro
  refine ⟨fun w' hw' => ?_, ?_⟩
  · (obtain ⟨q0, q1, q2⟩ := hw')
    go_simp
    first | done | rfl
  try simp only [Act.put, List.setIfInBounds_toArray, List.set_cons_zero, List.set_cons_succ]
  refine UntH.take (i := 4) (some 69) rfl rfl (by kernel_rfl) (by kernel_rfl) (by kernel_rfl) (by kernel_rfl) (fun _ _ _ _ h => h) (by rfl) HS2.out ?_
  apply Exists.intro
  refine ⟨fun w' hw' => ?_, ?_⟩
  · (obtain ⟨q0, q1, q2⟩ := hw')
    go_simp
    first | done | rfl
  try simp only [Act.put, List.setIfInBounds_toArray, List.set_cons_zero, List.set_cons_succ]
  refine UntH.take (i := 5) (some 70) rfl rfl (by kernel_rfl) (by kernel_rfl) (by kernel_rfl) (by kernel_rfl) (fun _ _ _ _ h => h) (by rfl) HS2.out ?_
  apply Exists.intro
  refine ⟨fun w' hw' => ?_, ?_⟩
  · (obtain ⟨q0, q1, q2⟩ := hw')
    go_simp
    first | done | rfl
  try simp only [Act.put, List.setIfInBounds_toArray, List.set_cons_zero, List.set_cons_succ]
  refine UntH.take (i := 6) (some 71) rfl rfl (by kernel_rfl) (by kernel_rfl) (by kernel_rfl) (by kernel_rfl) (fun _ _ _ _ h => h) (by rfl) HS2.out ?_
  apply Exists.intro
  refine ⟨fun w' hw' => ?_, ?_⟩
  · (obtain ⟨q0, q1, q2⟩ := hw')
    go_simp
    first | done | rfl
  try simp only [Act.put, List.setIfInBounds_toArray, List.set_cons_zero, List.set_cons_succ]
  refine UntH.take (i := 7) (some 72) rfl rfl (by kernel_rfl) (by kernel_rfl) (by kernel_rfl) (by kernel_rfl) (fun _ _ _ _ h => h) (by rfl) HS2.out ?_
  apply Exists.intro
  refine ⟨fun w' hw' => ?_, ?_⟩
  · (obtain ⟨q0, q1, q2⟩ := hw')
    go_simp
    first | done | rfl
  try simp only [Act.put, List.setIfInBounds_toArray, List.set_cons_zero, List.set_cons_succ]
  refine UntH.step (i := 8) (by kernel_rfl) rfl (fun K hK => ?_)
  go_simp
  refine (HC.out _ H2.out.ca).mono ?_
  rintro e w3 cq
  obtain ⟨P3, rfl, h3, k3, g3, ok3⟩ := H2.out.code cq
  have H3 := hide h3
  have K3 := hide k3
  have G3 := hide g3
  have OK3 := hide ok3
  clear cq h3 k3 g3 ok3
  have W3 : Hid (WBk w3 wb a x lv) := (K3.out.block _ (lt_of_block W2.out) NP.out).trans W2.out
  have B3 := hide (B2.out.kept K3.out NPO.out)
  have HS3 : Hid (w3.cell? ⟨wb, 0, none⟩ = some (.pointer (some ⟨a, 0, none⟩)) ∧ w3.cell? ⟨ob, 2, none⟩ = some (.int .i64 zf) ∧ w3.cell? ⟨ob, 3, none⟩ = some (.int .i64 zg)) := by have BX := B3.out; exact ⟨(W3.out).cells.1, BX.cells.2.2.1, BX.cells.2.2.2.1⟩
  go_simp
  refine hK _ _ HS3.out ?_
  clear hK K HC HS2
  refine UntH.take (i := 9) (some 64) rfl rfl (by kernel_rfl) (by kernel_rfl) (by kernel_rfl) (by kernel_rfl) (fun _ _ _ _ h => h) (by rfl) HS3.out ?_
  apply Exists.intro
  refine ⟨fun w' hw' => ?_, ?_⟩
  · (obtain ⟨q0, q1, q2⟩ := hw')
    go_simp
    first | done | rfl
  try simp only [Act.put, List.setIfInBounds_toArray, List.set_cons_zero, List.set_cons_succ]
  refine UntH.take (i := 10) (some 74) rfl rfl (by kernel_rfl) (by kernel_rfl) (by kernel_rfl) (by kernel_rfl) (fun _ _ _ _ h => h) (by rfl) HS3.out ?_
  apply Exists.intro
  refine ⟨fun w' hw' => ?_, ?_⟩
  · (obtain ⟨q0, q1, q2⟩ := hw')
    go_simp
    first | done | rfl
  try simp only [Act.put, List.setIfInBounds_toArray, List.set_cons_zero, List.set_cons_succ]
  refine UntH.take (i := 11) (some 75) rfl rfl (by kernel_rfl) (by kernel_rfl) (by kernel_rfl) (by kernel_rfl) (fun _ _ _ _ h => h) (by rfl) HS3.out ?_
  apply Exists.intro
  refine ⟨fun w' hw' => ?_, ?_⟩
  · (obtain ⟨q0, q1, q2⟩ := hw')
    go_simp
    first | done | rfl
  try simp only [Act.put, List.setIfInBounds_toArray, List.set_cons_zero, List.set_cons_succ]
  refine UntH.take (i := 12) (some 12) rfl rfl (by kernel_rfl) (by kernel_rfl) (by kernel_rfl) (by kernel_rfl) (fun _ _ _ _ h => h) (by rfl) HS3.out ?_
  apply Exists.intro
  refine ⟨fun w' hw' => ?_, ?_⟩
  · (obtain ⟨q0, q1, q2⟩ := hw')
    go_simp
    first | done | rfl
  try simp only [Act.put, List.setIfInBounds_toArray, List.set_cons_zero, List.set_cons_succ]
  refine UntH.last (by kernel_rfl) rfl (by kernel_rfl) (by kernel_rfl) (fun K hK => ?_)
  go_simp
  refine hK _ _ ?_
  clear hK K HS3 H2 W2 B2
  go_upto_region 8 with fail
  have H4 : Hid (SD w3.drew a x S M G.2.2 N P3 Q) := H3.out.below (Below.refl _ _).drew
  have W4 : Hid (WBk w3.drew wb a x lv) := W3.out
  have B4 : Hid (Bx w3.drew ob zn 3 zf zg zh zl zc iv cv) := B3.out
  have K4 : Hid (Kept P w2 w3.drew) := K3.out.drew
  refine wp_unt (S := fun V => V.cell? ⟨wb, 1, none⟩ = some (.pointer (some ⟨x, 0, none⟩)) ∧ V.cell? ⟨ob, 2, none⟩ = some (.int .i64 zf) ∧ V.cell? ⟨ob, 3, none⟩ = some (.int .i64 zg)) 13 (by kernel_rfl) ?_
  generalize w3.drew = w4 at *
  clear H3 W3 B3 K3
  have HS4 : Hid (w4.cell? ⟨wb, 1, none⟩ = some (.pointer (some ⟨x, 0, none⟩)) ∧ w4.cell? ⟨ob, 2, none⟩ = some (.int .i64 zf) ∧ w4.cell? ⟨ob, 3, none⟩ = some (.int .i64 zg)) := by have BX := B4.out; exact ⟨(W4.out).cells.2.1, BX.cells.2.2.1, BX.cells.2.2.2.1⟩
  refine UntH.take (i := 0) (some 77) rfl rfl (by kernel_rfl) (by kernel_rfl) (by kernel_rfl) (by kernel_rfl) (fun _ _ _ _ h => h) (by rfl) HS4.out ?_
  apply Exists.intro
  refine ⟨fun w' hw' => ?_, ?_⟩
  · (obtain ⟨q0, q1, q2⟩ := hw')
    go_simp
    first | done | rfl
  try simp only [Act.put, List.setIfInBounds_toArray, List.set_cons_zero, List.set_cons_succ]
  refine UntH.take (i := 1) (some 78) rfl rfl (by kernel_rfl) (by kernel_rfl) (by kernel_rfl) (by kernel_rfl) (fun _ _ _ _ h => h) (by rfl) HS4.out ?_
  apply Exists.intro
  refine ⟨fun w' hw' => ?_, ?_⟩
  · (obtain ⟨q0, q1, q2⟩ := hw')
    go_simp
    first | done | rfl
  try simp only [Act.put, List.setIfInBounds_toArray, List.set_cons_zero, List.set_cons_succ]
  refine UntH.take (i := 2) (some 79) rfl rfl (by kernel_rfl) (by kernel_rfl) (by kernel_rfl) (by kernel_rfl) (fun _ _ _ _ h => h) (by rfl) HS4.out ?_
  apply Exists.intro
  refine ⟨fun w' hw' => ?_, ?_⟩
  · (obtain ⟨q0, q1, q2⟩ := hw')
    go_simp
    first | done | rfl
  try simp only [Act.put, List.setIfInBounds_toArray, List.set_cons_zero, List.set_cons_succ]
  refine UntH.take (i := 3) (some 80) rfl rfl (by kernel_rfl) (by kernel_rfl) (by kernel_rfl) (by kernel_rfl) (fun _ _ _ _ h => h) (by rfl) HS4.out ?_
  apply Exists.intro
  refine ⟨fun w' hw' => ?_, ?_⟩
  · (obtain ⟨q0, q1, q2⟩ := hw')
    go_simp
    first | done | rfl
  try simp only [Act.put, List.setIfInBounds_toArray, List.set_cons_zero, List.set_cons_succ]
  refine UntH.take (i := 4) (some 81) rfl rfl (by kernel_rfl) (by kernel_rfl) (by kernel_rfl) (by kernel_rfl) (fun _ _ _ _ h => h) (by rfl) HS4.out ?_
  apply Exists.intro
  refine ⟨fun w' hw' => ?_, ?_⟩
  · (obtain ⟨q0, q1, q2⟩ := hw')
    go_simp
    first | done | rfl
  try simp only [Act.put, List.setIfInBounds_toArray, List.set_cons_zero, List.set_cons_succ]
  refine UntH.take (i := 5) (some 82) rfl rfl (by kernel_rfl) (by kernel_rfl) (by kernel_rfl) (by kernel_rfl) (fun _ _ _ _ h => h) (by rfl) HS4.out ?_
  apply Exists.intro
  refine ⟨fun w' hw' => ?_, ?_⟩
  · (obtain ⟨q0, q1, q2⟩ := hw')
    go_simp
    first | done | rfl
  try simp only [Act.put, List.setIfInBounds_toArray, List.set_cons_zero, List.set_cons_succ]
  refine UntH.take (i := 6) (some 83) rfl rfl (by kernel_rfl) (by kernel_rfl) (by kernel_rfl) (by kernel_rfl) (fun _ _ _ _ h => h) (by rfl) HS4.out ?_
  apply Exists.intro
  refine ⟨fun w' hw' => ?_, ?_⟩
  · (obtain ⟨q0, q1, q2⟩ := hw')
    go_simp
    first | done | rfl
  try simp only [Act.put, List.setIfInBounds_toArray, List.set_cons_zero, List.set_cons_succ]
  refine UntH.take (i := 7) (some 84) rfl rfl (by kernel_rfl) (by kernel_rfl) (by kernel_rfl) (by kernel_rfl) (fun _ _ _ _ h => h) (by rfl) HS4.out ?_
  apply Exists.intro
  refine ⟨fun w' hw' => ?_, ?_⟩
  · (obtain ⟨q0, q1, q2⟩ := hw')
    go_simp
    first | done | rfl
  try simp only [Act.put, List.setIfInBounds_toArray, List.set_cons_zero, List.set_cons_succ]
  refine UntH.step (i := 8) (by kernel_rfl) rfl (fun K hK => ?_)
  go_simp
  refine (HD.out _ H4.out.ra).mono ?_
  rintro e w5 dq
  obtain ⟨Q5, rfl, h5, k5, g5⟩ := H4.out.doc dq
  have H5 := hide h5
  have K5 := hide k5
  have G5 := hide g5
  clear dq h5 k5 g5
  have W5 : Hid (WBk w5 wb a x lv) := (K5.out.block _ (lt_of_block W4.out) NQ.out).trans W4.out
  have B5 := hide (B4.out.kept K5.out NQO.out)
  have HS5 : Hid (w5.cell? ⟨wb, 1, none⟩ = some (.pointer (some ⟨x, 0, none⟩)) ∧ w5.cell? ⟨ob, 2, none⟩ = some (.int .i64 zf) ∧ w5.cell? ⟨ob, 3, none⟩ = some (.int .i64 zg)) := by have BX := B5.out; exact ⟨(W5.out).cells.2.1, BX.cells.2.2.1, BX.cells.2.2.2.1⟩
  go_simp
  refine hK _ _ HS5.out ?_
  clear hK K HD HS4
  refine UntH.take (i := 9) (some 76) rfl rfl (by kernel_rfl) (by kernel_rfl) (by kernel_rfl) (by kernel_rfl) (fun _ _ _ _ h => h) (by rfl) HS5.out ?_
  apply Exists.intro
  refine ⟨fun w' hw' => ?_, ?_⟩
  · (obtain ⟨q0, q1, q2⟩ := hw')
    go_simp
    first | done | rfl
  try simp only [Act.put, List.setIfInBounds_toArray, List.set_cons_zero, List.set_cons_succ]
  refine UntH.take (i := 10) (some 86) rfl rfl (by kernel_rfl) (by kernel_rfl) (by kernel_rfl) (by kernel_rfl) (fun _ _ _ _ h => h) (by rfl) HS5.out ?_
  apply Exists.intro
  refine ⟨fun w' hw' => ?_, ?_⟩
  · (obtain ⟨q0, q1, q2⟩ := hw')
    go_simp
    first | done | rfl
  try simp only [Act.put, List.setIfInBounds_toArray, List.set_cons_zero, List.set_cons_succ]
  refine UntH.take (i := 11) (some 87) rfl rfl (by kernel_rfl) (by kernel_rfl) (by kernel_rfl) (by kernel_rfl) (fun _ _ _ _ h => h) (by rfl) HS5.out ?_
  apply Exists.intro
  refine ⟨fun w' hw' => ?_, ?_⟩
  · (obtain ⟨q0, q1, q2⟩ := hw')
    go_simp
    first | done | rfl
  try simp only [Act.put, List.setIfInBounds_toArray, List.set_cons_zero, List.set_cons_succ]
  refine UntH.take (i := 12) (some 14) rfl rfl (by kernel_rfl) (by kernel_rfl) (by kernel_rfl) (by kernel_rfl) (fun _ _ _ _ h => h) (by rfl) HS5.out ?_
  apply Exists.intro
  refine ⟨fun w' hw' => ?_, ?_⟩
  · (obtain ⟨q0, q1, q2⟩ := hw')
    go_simp
    first | done | rfl
  try simp only [Act.put, List.setIfInBounds_toArray, List.set_cons_zero, List.set_cons_succ]
  refine UntH.last (by kernel_rfl) rfl (by kernel_rfl) (by kernel_rfl) (fun K hK => ?_)
  go_simp
  refine hK _ _ ?_
  clear hK K HS5
  have FIN := hide (MzL.of Y2.out K4.out G3.out K5.out G5.out H5.out OK3.out)
  clear W4 B4 W5 B5 H4 H5 K4 K5 G3 G5 OK3 NP NQ NPO NQO Y2
  go_wp2
  refine bodyPost_ret (by simp [results, Try.results12, go_sem]; try rfl) rfl ?_
  exact FIN.out
set_option maxRecDepth 100000 in
set_option maxHeartbeats 4000000 in
theorem makes_4 {zn : Bool} {zf zg zh zl zc : Int} {iv cv : Value} (h : SD w a x S M N N P Q) (hb : WBk w wb a x lv) (np : ¬ P wb) (nq : ¬ Q wb)
    (hc : ∀ W, CA W a S M N 8192 P → Calls Try.prog 39 #[.pointer (some ⟨a, 0, none⟩), .int .i64 zf, .int .i64 zg] W fun e w' => CQ a S M N P G W e w')
    (hd : ∀ W, RA W x S M N Q → Calls Try.prog 40 #[.pointer (some ⟨x, 0, none⟩), .int .i64 zf, .int .i64 zg] W fun e w' => DQ x S M Q G W e w') :
    Calls Try.prog 12 #[.pointer (some ⟨wb, 0, none⟩), .agg #[.bool zn, .int .i64 4, .int .i64 zf, .int .i64 zg, .int .i64 zh, .int .i64 zl, .int .i64 zc, iv, cv]] w fun e w' => MzL a x S M N P Q G w e w' := by
  have y1 : Below w.heap.size w (w.alloc (.cells #[.bool zn, .int .i64 4, .int .i64 zf, .int .i64 zg, .int .i64 zh, .int .i64 zl, .int .i64 zc, iv, cv] 38)) := al (Below.refl _ _) _
  have bx1 : Bx (w.alloc (.cells #[.bool zn, .int .i64 4, .int .i64 zf, .int .i64 zg, .int .i64 zh, .int .i64 zl, .int .i64 zc, iv, cv] 38)) w.heap.size zn 4 zf zg zh zl zc iv cv := heap_alloc_new w _
  have H1 := hide (h.below y1)
  have W1 : Hid (WBk (w.alloc (.cells #[.bool zn, .int .i64 4, .int .i64 zf, .int .i64 zg, .int .i64 zh, .int .i64 zl, .int .i64 zc, iv, cv] 38)) wb a x lv) := (y1.block _ (lt_of_block hb)).trans hb
  have B1 := hide bx1
  have Y1 := hide y1
  have OB : Hid (∃ ob, ob = w.heap.size ∧ ¬ P ob ∧ ¬ Q ob) := ⟨_, rfl, fun hp => by have := h.ca.plt hp; omega, fun hq => by have := h.ra.plt hq; omega⟩
  have HC := hide hc
  have HD := hide hd
  have NP := hide np
  have NQ := hide nq
  clear h hb np nq hc hd y1 bx1
  go_enter Try.func12, Try.ntmps12
  go_upto_region 1 with fail
  generalize w.alloc (.cells #[.bool zn, .int .i64 4, .int .i64 zf, .int .i64 zg, .int .i64 zh, .int .i64 zl, .int .i64 zc, iv, cv] 38) = w1 at *
  obtain ⟨ob, hob, hpo, hqo⟩ := OB.out
  rw [← hob] at B1
  try rw [← hob]
  have NPO := hide hpo
  have NQO := hide hqo
  clear hob hpo hqo OB
  obtain ⟨o0, o1, o2, o3, o4, o5, o6, o7, o8⟩ := B1.out.cells
  go_upto_region 11 with fail
  clear o0 o1 o2 o3 o4 o5 o6 o7 o8
  have H2 : Hid (SD w1.drew a x S M N N P Q) := H1.out.below (Below.refl _ _).drew
  have W2 : Hid (WBk w1.drew wb a x lv) := W1.out
  have B2 : Hid (Bx w1.drew ob zn 4 zf zg zh zl zc iv cv) := B1.out
  have Y2 : Hid (Below w.heap.size w w1.drew) := Y1.out.drew
  refine wp_unt (S := fun V => V.cell? ⟨wb, 0, none⟩ = some (.pointer (some ⟨a, 0, none⟩)) ∧ V.cell? ⟨ob, 2, none⟩ = some (.int .i64 zf) ∧ V.cell? ⟨ob, 3, none⟩ = some (.int .i64 zg)) 13 (by kernel_rfl) ?_
  generalize w1.drew = w2 at *
  clear H1 W1 B1 Y1
  have HS2 : Hid (w2.cell? ⟨wb, 0, none⟩ = some (.pointer (some ⟨a, 0, none⟩)) ∧ w2.cell? ⟨ob, 2, none⟩ = some (.int .i64 zf) ∧ w2.cell? ⟨ob, 3, none⟩ = some (.int .i64 zg)) := by have BX := B2.out; exact ⟨(W2.out).cells.1, BX.cells.2.2.1, BX.cells.2.2.2.1⟩
  refine UntH.take (i := 0) (some 95) rfl rfl (by kernel_rfl) (by kernel_rfl) (by kernel_rfl) (by kernel_rfl) (fun _ _ _ _ h => h) (by rfl) HS2.out ?_
  apply Exists.intro
  refine ⟨fun w' hw' => ?_, ?_⟩
  · (obtain ⟨q0, q1, q2⟩ := hw')
    go_simp
    first | done | rfl
  try simp only [Act.put, List.setIfInBounds_toArray, List.set_cons_zero, List.set_cons_succ]
  refine UntH.take (i := 1) (some 96) rfl rfl (by kernel_rfl) (by kernel_rfl) (by kernel_rfl) (by kernel_rfl) (fun _ _ _ _ h => h) (by rfl) HS2.out ?_
  apply Exists.intro
  refine ⟨fun w' hw' => ?_, ?_⟩
  · (obtain ⟨q0, q1, q2⟩ := hw')
    go_simp
    first | done | rfl
  try simp only [Act.put, List.setIfInBounds_toArray, List.set_cons_zero, List.set_cons_succ]
  refine UntH.take (i := 2) (some 97) rfl rfl (by kernel_rfl) (by kernel_rfl) (by kernel_rfl) (by kernel_rfl) (fun _ _ _ _ h => h) (by rfl) HS2.out ?_
  apply Exists.intro
  refine ⟨fun w' hw' => ?_, ?_⟩
  · (obtain ⟨q0, q1, q2⟩ := hw')
    go_simp
    first | done | rfl
  try simp only [Act.put, List.setIfInBounds_toArray, List.set_cons_zero, List.set_cons_succ]
  refine UntH.take (i := 3) (some 98) rfl rfl (by kernel_rfl) (by kernel_rfl) (by kernel_rfl) (by kernel_rfl) (fun _ _ _ _ h => h) (by rfl) HS2.out ?_
  apply Exists.intro
  refine ⟨fun w' hw' => ?_, ?_⟩
  · (obtain ⟨q0, q1, q2⟩ := hw')
    go_simp
    first | done | rfl
  try simp only [Act.put, List.setIfInBounds_toArray, List.set_cons_zero, List.set_cons_succ]
  refine UntH.take (i := 4) (some 99) rfl rfl (by kernel_rfl) (by kernel_rfl) (by kernel_rfl) (by kernel_rfl) (fun _ _ _ _ h => h) (by rfl) HS2.out ?_
  apply Exists.intro
  refine ⟨fun w' hw' => ?_, ?_⟩
  · (obtain ⟨q0, q1, q2⟩ := hw')
    go_simp
    first | done | rfl
  try simp only [Act.put, List.setIfInBounds_toArray, List.set_cons_zero, List.set_cons_succ]
  refine UntH.take (i := 5) (some 100) rfl rfl (by kernel_rfl) (by kernel_rfl) (by kernel_rfl) (by kernel_rfl) (fun _ _ _ _ h => h) (by rfl) HS2.out ?_
  apply Exists.intro
  refine ⟨fun w' hw' => ?_, ?_⟩
  · (obtain ⟨q0, q1, q2⟩ := hw')
    go_simp
    first | done | rfl
  try simp only [Act.put, List.setIfInBounds_toArray, List.set_cons_zero, List.set_cons_succ]
  refine UntH.take (i := 6) (some 101) rfl rfl (by kernel_rfl) (by kernel_rfl) (by kernel_rfl) (by kernel_rfl) (fun _ _ _ _ h => h) (by rfl) HS2.out ?_
  apply Exists.intro
  refine ⟨fun w' hw' => ?_, ?_⟩
  · (obtain ⟨q0, q1, q2⟩ := hw')
    go_simp
    first | done | rfl
  try simp only [Act.put, List.setIfInBounds_toArray, List.set_cons_zero, List.set_cons_succ]
  refine UntH.take (i := 7) (some 102) rfl rfl (by kernel_rfl) (by kernel_rfl) (by kernel_rfl) (by kernel_rfl) (fun _ _ _ _ h => h) (by rfl) HS2.out ?_
  apply Exists.intro
  refine ⟨fun w' hw' => ?_, ?_⟩
  · (obtain ⟨q0, q1, q2⟩ := hw')
    go_simp
    first | done | rfl
  try simp only [Act.put, List.setIfInBounds_toArray, List.set_cons_zero, List.set_cons_succ]
  refine UntH.step (i := 8) (by kernel_rfl) rfl (fun K hK => ?_)
  go_simp
  refine (HC.out _ H2.out.ca).mono ?_
  rintro e w3 cq
  obtain ⟨P3, rfl, h3, k3, g3, ok3⟩ := H2.out.code cq
  have H3 := hide h3
  have K3 := hide k3
  have G3 := hide g3
  have OK3 := hide ok3
  clear cq h3 k3 g3 ok3
  have W3 : Hid (WBk w3 wb a x lv) := (K3.out.block _ (lt_of_block W2.out) NP.out).trans W2.out
  have B3 := hide (B2.out.kept K3.out NPO.out)
  have HS3 : Hid (w3.cell? ⟨wb, 0, none⟩ = some (.pointer (some ⟨a, 0, none⟩)) ∧ w3.cell? ⟨ob, 2, none⟩ = some (.int .i64 zf) ∧ w3.cell? ⟨ob, 3, none⟩ = some (.int .i64 zg)) := by have BX := B3.out; exact ⟨(W3.out).cells.1, BX.cells.2.2.1, BX.cells.2.2.2.1⟩
  go_simp
  refine hK _ _ HS3.out ?_
  clear hK K HC HS2
  refine UntH.take (i := 9) (some 94) rfl rfl (by kernel_rfl) (by kernel_rfl) (by kernel_rfl) (by kernel_rfl) (fun _ _ _ _ h => h) (by rfl) HS3.out ?_
  apply Exists.intro
  refine ⟨fun w' hw' => ?_, ?_⟩
  · (obtain ⟨q0, q1, q2⟩ := hw')
    go_simp
    first | done | rfl
  try simp only [Act.put, List.setIfInBounds_toArray, List.set_cons_zero, List.set_cons_succ]
  refine UntH.take (i := 10) (some 104) rfl rfl (by kernel_rfl) (by kernel_rfl) (by kernel_rfl) (by kernel_rfl) (fun _ _ _ _ h => h) (by rfl) HS3.out ?_
  apply Exists.intro
  refine ⟨fun w' hw' => ?_, ?_⟩
  · (obtain ⟨q0, q1, q2⟩ := hw')
    go_simp
    first | done | rfl
  try simp only [Act.put, List.setIfInBounds_toArray, List.set_cons_zero, List.set_cons_succ]
  refine UntH.take (i := 11) (some 105) rfl rfl (by kernel_rfl) (by kernel_rfl) (by kernel_rfl) (by kernel_rfl) (fun _ _ _ _ h => h) (by rfl) HS3.out ?_
  apply Exists.intro
  refine ⟨fun w' hw' => ?_, ?_⟩
  · (obtain ⟨q0, q1, q2⟩ := hw')
    go_simp
    first | done | rfl
  try simp only [Act.put, List.setIfInBounds_toArray, List.set_cons_zero, List.set_cons_succ]
  refine UntH.take (i := 12) (some 16) rfl rfl (by kernel_rfl) (by kernel_rfl) (by kernel_rfl) (by kernel_rfl) (fun _ _ _ _ h => h) (by rfl) HS3.out ?_
  apply Exists.intro
  refine ⟨fun w' hw' => ?_, ?_⟩
  · (obtain ⟨q0, q1, q2⟩ := hw')
    go_simp
    first | done | rfl
  try simp only [Act.put, List.setIfInBounds_toArray, List.set_cons_zero, List.set_cons_succ]
  refine UntH.last (by kernel_rfl) rfl (by kernel_rfl) (by kernel_rfl) (fun K hK => ?_)
  go_simp
  refine hK _ _ ?_
  clear hK K HS3 H2 W2 B2
  go_upto_region 12 with fail
  have H4 : Hid (SD w3.drew a x S M G.2.2 N P3 Q) := H3.out.below (Below.refl _ _).drew
  have W4 : Hid (WBk w3.drew wb a x lv) := W3.out
  have B4 : Hid (Bx w3.drew ob zn 4 zf zg zh zl zc iv cv) := B3.out
  have K4 : Hid (Kept P w2 w3.drew) := K3.out.drew
  refine wp_unt (S := fun V => V.cell? ⟨wb, 1, none⟩ = some (.pointer (some ⟨x, 0, none⟩)) ∧ V.cell? ⟨ob, 2, none⟩ = some (.int .i64 zf) ∧ V.cell? ⟨ob, 3, none⟩ = some (.int .i64 zg)) 13 (by kernel_rfl) ?_
  generalize w3.drew = w4 at *
  clear H3 W3 B3 K3
  have HS4 : Hid (w4.cell? ⟨wb, 1, none⟩ = some (.pointer (some ⟨x, 0, none⟩)) ∧ w4.cell? ⟨ob, 2, none⟩ = some (.int .i64 zf) ∧ w4.cell? ⟨ob, 3, none⟩ = some (.int .i64 zg)) := by have BX := B4.out; exact ⟨(W4.out).cells.2.1, BX.cells.2.2.1, BX.cells.2.2.2.1⟩
  refine UntH.take (i := 0) (some 107) rfl rfl (by kernel_rfl) (by kernel_rfl) (by kernel_rfl) (by kernel_rfl) (fun _ _ _ _ h => h) (by rfl) HS4.out ?_
  apply Exists.intro
  refine ⟨fun w' hw' => ?_, ?_⟩
  · (obtain ⟨q0, q1, q2⟩ := hw')
    go_simp
    first | done | rfl
  try simp only [Act.put, List.setIfInBounds_toArray, List.set_cons_zero, List.set_cons_succ]
  refine UntH.take (i := 1) (some 108) rfl rfl (by kernel_rfl) (by kernel_rfl) (by kernel_rfl) (by kernel_rfl) (fun _ _ _ _ h => h) (by rfl) HS4.out ?_
  apply Exists.intro
  refine ⟨fun w' hw' => ?_, ?_⟩
  · (obtain ⟨q0, q1, q2⟩ := hw')
    go_simp
    first | done | rfl
  try simp only [Act.put, List.setIfInBounds_toArray, List.set_cons_zero, List.set_cons_succ]
  refine UntH.take (i := 2) (some 109) rfl rfl (by kernel_rfl) (by kernel_rfl) (by kernel_rfl) (by kernel_rfl) (fun _ _ _ _ h => h) (by rfl) HS4.out ?_
  apply Exists.intro
  refine ⟨fun w' hw' => ?_, ?_⟩
  · (obtain ⟨q0, q1, q2⟩ := hw')
    go_simp
    first | done | rfl
  try simp only [Act.put, List.setIfInBounds_toArray, List.set_cons_zero, List.set_cons_succ]
  refine UntH.take (i := 3) (some 110) rfl rfl (by kernel_rfl) (by kernel_rfl) (by kernel_rfl) (by kernel_rfl) (fun _ _ _ _ h => h) (by rfl) HS4.out ?_
  apply Exists.intro
  refine ⟨fun w' hw' => ?_, ?_⟩
  · (obtain ⟨q0, q1, q2⟩ := hw')
    go_simp
    first | done | rfl
  try simp only [Act.put, List.setIfInBounds_toArray, List.set_cons_zero, List.set_cons_succ]
  refine UntH.take (i := 4) (some 111) rfl rfl (by kernel_rfl) (by kernel_rfl) (by kernel_rfl) (by kernel_rfl) (fun _ _ _ _ h => h) (by rfl) HS4.out ?_
  apply Exists.intro
  refine ⟨fun w' hw' => ?_, ?_⟩
  · (obtain ⟨q0, q1, q2⟩ := hw')
    go_simp
    first | done | rfl
  try simp only [Act.put, List.setIfInBounds_toArray, List.set_cons_zero, List.set_cons_succ]
  refine UntH.take (i := 5) (some 112) rfl rfl (by kernel_rfl) (by kernel_rfl) (by kernel_rfl) (by kernel_rfl) (fun _ _ _ _ h => h) (by rfl) HS4.out ?_
  apply Exists.intro
  refine ⟨fun w' hw' => ?_, ?_⟩
  · (obtain ⟨q0, q1, q2⟩ := hw')
    go_simp
    first | done | rfl
  try simp only [Act.put, List.setIfInBounds_toArray, List.set_cons_zero, List.set_cons_succ]
  refine UntH.take (i := 6) (some 113) rfl rfl (by kernel_rfl) (by kernel_rfl) (by kernel_rfl) (by kernel_rfl) (fun _ _ _ _ h => h) (by rfl) HS4.out ?_
  apply Exists.intro
  refine ⟨fun w' hw' => ?_, ?_⟩
  · (obtain ⟨q0, q1, q2⟩ := hw')
    go_simp
    first | done | rfl
  try simp only [Act.put, List.setIfInBounds_toArray, List.set_cons_zero, List.set_cons_succ]
  refine UntH.take (i := 7) (some 114) rfl rfl (by kernel_rfl) (by kernel_rfl) (by kernel_rfl) (by kernel_rfl) (fun _ _ _ _ h => h) (by rfl) HS4.out ?_
  apply Exists.intro
  refine ⟨fun w' hw' => ?_, ?_⟩
  · (obtain ⟨q0, q1, q2⟩ := hw')
    go_simp
    first | done | rfl
  try simp only [Act.put, List.setIfInBounds_toArray, List.set_cons_zero, List.set_cons_succ]
  refine UntH.step (i := 8) (by kernel_rfl) rfl (fun K hK => ?_)
  go_simp
  refine (HD.out _ H4.out.ra).mono ?_
  rintro e w5 dq
  obtain ⟨Q5, rfl, h5, k5, g5⟩ := H4.out.doc dq
  have H5 := hide h5
  have K5 := hide k5
  have G5 := hide g5
  clear dq h5 k5 g5
  have W5 : Hid (WBk w5 wb a x lv) := (K5.out.block _ (lt_of_block W4.out) NQ.out).trans W4.out
  have B5 := hide (B4.out.kept K5.out NQO.out)
  have HS5 : Hid (w5.cell? ⟨wb, 1, none⟩ = some (.pointer (some ⟨x, 0, none⟩)) ∧ w5.cell? ⟨ob, 2, none⟩ = some (.int .i64 zf) ∧ w5.cell? ⟨ob, 3, none⟩ = some (.int .i64 zg)) := by have BX := B5.out; exact ⟨(W5.out).cells.2.1, BX.cells.2.2.1, BX.cells.2.2.2.1⟩
  go_simp
  refine hK _ _ HS5.out ?_
  clear hK K HD HS4
  refine UntH.take (i := 9) (some 106) rfl rfl (by kernel_rfl) (by kernel_rfl) (by kernel_rfl) (by kernel_rfl) (fun _ _ _ _ h => h) (by rfl) HS5.out ?_
  apply Exists.intro
  refine ⟨fun w' hw' => ?_, ?_⟩
  · (obtain ⟨q0, q1, q2⟩ := hw')
    go_simp
    first | done | rfl
  try simp only [Act.put, List.setIfInBounds_toArray, List.set_cons_zero, List.set_cons_succ]
  refine UntH.take (i := 10) (some 116) rfl rfl (by kernel_rfl) (by kernel_rfl) (by kernel_rfl) (by kernel_rfl) (fun _ _ _ _ h => h) (by rfl) HS5.out ?_
  apply Exists.intro
  refine ⟨fun w' hw' => ?_, ?_⟩
  · (obtain ⟨q0, q1, q2⟩ := hw')
    go_simp
    first | done | rfl
  try simp only [Act.put, List.setIfInBounds_toArray, List.set_cons_zero, List.set_cons_succ]
  refine UntH.take (i := 11) (some 117) rfl rfl (by kernel_rfl) (by kernel_rfl) (by kernel_rfl) (by kernel_rfl) (fun _ _ _ _ h => h) (by rfl) HS5.out ?_
  apply Exists.intro
  refine ⟨fun w' hw' => ?_, ?_⟩
  · (obtain ⟨q0, q1, q2⟩ := hw')
    go_simp
    first | done | rfl
  try simp only [Act.put, List.setIfInBounds_toArray, List.set_cons_zero, List.set_cons_succ]
  refine UntH.take (i := 12) (some 18) rfl rfl (by kernel_rfl) (by kernel_rfl) (by kernel_rfl) (by kernel_rfl) (fun _ _ _ _ h => h) (by rfl) HS5.out ?_
  apply Exists.intro
  refine ⟨fun w' hw' => ?_, ?_⟩
  · (obtain ⟨q0, q1, q2⟩ := hw')
    go_simp
    first | done | rfl
  try simp only [Act.put, List.setIfInBounds_toArray, List.set_cons_zero, List.set_cons_succ]
  refine UntH.last (by kernel_rfl) rfl (by kernel_rfl) (by kernel_rfl) (fun K hK => ?_)
  go_simp
  refine hK _ _ ?_
  clear hK K HS5
  have FIN := hide (MzL.of Y2.out K4.out G3.out K5.out G5.out H5.out OK3.out)
  clear W4 B4 W5 B5 H4 H5 K4 K5 G3 G5 OK3 NP NQ NPO NQO Y2
  go_wp2
  refine bodyPost_ret (by simp [results, Try.results12, go_sem]; try rfl) rfl ?_
  exact FIN.out
set_option maxRecDepth 100000 in
set_option maxHeartbeats 4000000 in
theorem makes_5 {zn : Bool} {zf zg zh zl zc : Int} {iv cv : Value} (h : SD w a x S M N N P Q) (hb : WBk w wb a x lv) (np : ¬ P wb) (nq : ¬ Q wb)
    (hc : ∀ W, CA W a S M N 8192 P → Calls Try.prog 41 #[.pointer (some ⟨a, 0, none⟩), .int .i64 zf, .int .i64 zg] W fun e w' => CQ a S M N P G W e w')
    (hd : ∀ W, RA W x S M N Q → Calls Try.prog 42 #[.pointer (some ⟨x, 0, none⟩), .int .i64 zf, .int .i64 zg] W fun e w' => DQ x S M Q G W e w') :
    Calls Try.prog 12 #[.pointer (some ⟨wb, 0, none⟩), .agg #[.bool zn, .int .i64 5, .int .i64 zf, .int .i64 zg, .int .i64 zh, .int .i64 zl, .int .i64 zc, iv, cv]] w fun e w' => MzL a x S M N P Q G w e w' := by
  have y1 : Below w.heap.size w (w.alloc (.cells #[.bool zn, .int .i64 5, .int .i64 zf, .int .i64 zg, .int .i64 zh, .int .i64 zl, .int .i64 zc, iv, cv] 38)) := al (Below.refl _ _) _
  have bx1 : Bx (w.alloc (.cells #[.bool zn, .int .i64 5, .int .i64 zf, .int .i64 zg, .int .i64 zh, .int .i64 zl, .int .i64 zc, iv, cv] 38)) w.heap.size zn 5 zf zg zh zl zc iv cv := heap_alloc_new w _
  have H1 := hide (h.below y1)
  have W1 : Hid (WBk (w.alloc (.cells #[.bool zn, .int .i64 5, .int .i64 zf, .int .i64 zg, .int .i64 zh, .int .i64 zl, .int .i64 zc, iv, cv] 38)) wb a x lv) := (y1.block _ (lt_of_block hb)).trans hb
  have B1 := hide bx1
  have Y1 := hide y1
  have OB : Hid (∃ ob, ob = w.heap.size ∧ ¬ P ob ∧ ¬ Q ob) := ⟨_, rfl, fun hp => by have := h.ca.plt hp; omega, fun hq => by have := h.ra.plt hq; omega⟩
  have HC := hide hc
  have HD := hide hd
  have NP := hide np
  have NQ := hide nq
  clear h hb np nq hc hd y1 bx1
  go_enter Try.func12, Try.ntmps12
  go_upto_region 1 with fail
  generalize w.alloc (.cells #[.bool zn, .int .i64 5, .int .i64 zf, .int .i64 zg, .int .i64 zh, .int .i64 zl, .int .i64 zc, iv, cv] 38) = w1 at *
  obtain ⟨ob, hob, hpo, hqo⟩ := OB.out
  rw [← hob] at B1
  try rw [← hob]
  have NPO := hide hpo
  have NQO := hide hqo
  clear hob hpo hqo OB
  obtain ⟨o0, o1, o2, o3, o4, o5, o6, o7, o8⟩ := B1.out.cells
  go_upto_region 15 with fail
  clear o0 o1 o2 o3 o4 o5 o6 o7 o8
  have H2 : Hid (SD w1.drew a x S M N N P Q) := H1.out.below (Below.refl _ _).drew
  have W2 : Hid (WBk w1.drew wb a x lv) := W1.out
  have B2 : Hid (Bx w1.drew ob zn 5 zf zg zh zl zc iv cv) := B1.out
  have Y2 : Hid (Below w.heap.size w w1.drew) := Y1.out.drew
  refine wp_unt (S := fun V => V.cell? ⟨wb, 0, none⟩ = some (.pointer (some ⟨a, 0, none⟩)) ∧ V.cell? ⟨ob, 2, none⟩ = some (.int .i64 zf) ∧ V.cell? ⟨ob, 3, none⟩ = some (.int .i64 zg)) 13 (by kernel_rfl) ?_
  generalize w1.drew = w2 at *
  clear H1 W1 B1 Y1
  have HS2 : Hid (w2.cell? ⟨wb, 0, none⟩ = some (.pointer (some ⟨a, 0, none⟩)) ∧ w2.cell? ⟨ob, 2, none⟩ = some (.int .i64 zf) ∧ w2.cell? ⟨ob, 3, none⟩ = some (.int .i64 zg)) := by have BX := B2.out; exact ⟨(W2.out).cells.1, BX.cells.2.2.1, BX.cells.2.2.2.1⟩
  refine UntH.take (i := 0) (some 125) rfl rfl (by kernel_rfl) (by kernel_rfl) (by kernel_rfl) (by kernel_rfl) (fun _ _ _ _ h => h) (by rfl) HS2.out ?_
  apply Exists.intro
  refine ⟨fun w' hw' => ?_, ?_⟩
  · (obtain ⟨q0, q1, q2⟩ := hw')
    go_simp
    first | done | rfl
  try simp only [Act.put, List.setIfInBounds_toArray, List.set_cons_zero, List.set_cons_succ]
  refine UntH.take (i := 1) (some 126) rfl rfl (by kernel_rfl) (by kernel_rfl) (by kernel_rfl) (by kernel_rfl) (fun _ _ _ _ h => h) (by rfl) HS2.out ?_
  apply Exists.intro
  refine ⟨fun w' hw' => ?_, ?_⟩
  · (obtain ⟨q0, q1, q2⟩ := hw')
    go_simp
    first | done | rfl
  try simp only [Act.put, List.setIfInBounds_toArray, List.set_cons_zero, List.set_cons_succ]
  refine UntH.take (i := 2) (some 127) rfl rfl (by kernel_rfl) (by kernel_rfl) (by kernel_rfl) (by kernel_rfl) (fun _ _ _ _ h => h) (by rfl) HS2.out ?_
  apply Exists.intro
  refine ⟨fun w' hw' => ?_, ?_⟩
  · (obtain ⟨q0, q1, q2⟩ := hw')
    go_simp
    first | done | rfl
  try simp only [Act.put, List.setIfInBounds_toArray, List.set_cons_zero, List.set_cons_succ]
  refine UntH.take (i := 3) (some 128) rfl rfl (by kernel_rfl) (by kernel_rfl) (by kernel_rfl) (by kernel_rfl) (fun _ _ _ _ h => h) (by rfl) HS2.out ?_
  apply Exists.intro
  refine ⟨fun w' hw' => ?_, ?_⟩
  · (obtain ⟨q0, q1, q2⟩ := hw')
    go_simp
    first | done | rfl
  try simp only [Act.put, List.setIfInBounds_toArray, List.set_cons_zero, List.set_cons_succ]
  refine UntH.take (i := 4) (some 129) rfl rfl (by kernel_rfl) (by kernel_rfl) (by kernel_rfl) (by kernel_rfl) (fun _ _ _ _ h => h) (by rfl) HS2.out ?_
  apply Exists.intro
  refine ⟨fun w' hw' => ?_, ?_⟩
  · (obtain ⟨q0, q1, q2⟩ := hw')
    go_simp
    first | done | rfl
  try simp only [Act.put, List.setIfInBounds_toArray, List.set_cons_zero, List.set_cons_succ]
  refine UntH.take (i := 5) (some 130) rfl rfl (by kernel_rfl) (by kernel_rfl) (by kernel_rfl) (by kernel_rfl) (fun _ _ _ _ h => h) (by rfl) HS2.out ?_
  apply Exists.intro
  refine ⟨fun w' hw' => ?_, ?_⟩
  · (obtain ⟨q0, q1, q2⟩ := hw')
    go_simp
    first | done | rfl
  try simp only [Act.put, List.setIfInBounds_toArray, List.set_cons_zero, List.set_cons_succ]
  refine UntH.take (i := 6) (some 131) rfl rfl (by kernel_rfl) (by kernel_rfl) (by kernel_rfl) (by kernel_rfl) (fun _ _ _ _ h => h) (by rfl) HS2.out ?_
  apply Exists.intro
  refine ⟨fun w' hw' => ?_, ?_⟩
  · (obtain ⟨q0, q1, q2⟩ := hw')
    go_simp
    first | done | rfl
  try simp only [Act.put, List.setIfInBounds_toArray, List.set_cons_zero, List.set_cons_succ]
  refine UntH.take (i := 7) (some 132) rfl rfl (by kernel_rfl) (by kernel_rfl) (by kernel_rfl) (by kernel_rfl) (fun _ _ _ _ h => h) (by rfl) HS2.out ?_
  apply Exists.intro
  refine ⟨fun w' hw' => ?_, ?_⟩
  · (obtain ⟨q0, q1, q2⟩ := hw')
    go_simp
    first | done | rfl
  try simp only [Act.put, List.setIfInBounds_toArray, List.set_cons_zero, List.set_cons_succ]
  refine UntH.step (i := 8) (by kernel_rfl) rfl (fun K hK => ?_)
  go_simp
  refine (HC.out _ H2.out.ca).mono ?_
  rintro e w3 cq
  obtain ⟨P3, rfl, h3, k3, g3, ok3⟩ := H2.out.code cq
  have H3 := hide h3
  have K3 := hide k3
  have G3 := hide g3
  have OK3 := hide ok3
  clear cq h3 k3 g3 ok3
  have W3 : Hid (WBk w3 wb a x lv) := (K3.out.block _ (lt_of_block W2.out) NP.out).trans W2.out
  have B3 := hide (B2.out.kept K3.out NPO.out)
  have HS3 : Hid (w3.cell? ⟨wb, 0, none⟩ = some (.pointer (some ⟨a, 0, none⟩)) ∧ w3.cell? ⟨ob, 2, none⟩ = some (.int .i64 zf) ∧ w3.cell? ⟨ob, 3, none⟩ = some (.int .i64 zg)) := by have BX := B3.out; exact ⟨(W3.out).cells.1, BX.cells.2.2.1, BX.cells.2.2.2.1⟩
  go_simp
  refine hK _ _ HS3.out ?_
  clear hK K HC HS2
  refine UntH.take (i := 9) (some 124) rfl rfl (by kernel_rfl) (by kernel_rfl) (by kernel_rfl) (by kernel_rfl) (fun _ _ _ _ h => h) (by rfl) HS3.out ?_
  apply Exists.intro
  refine ⟨fun w' hw' => ?_, ?_⟩
  · (obtain ⟨q0, q1, q2⟩ := hw')
    go_simp
    first | done | rfl
  try simp only [Act.put, List.setIfInBounds_toArray, List.set_cons_zero, List.set_cons_succ]
  refine UntH.take (i := 10) (some 134) rfl rfl (by kernel_rfl) (by kernel_rfl) (by kernel_rfl) (by kernel_rfl) (fun _ _ _ _ h => h) (by rfl) HS3.out ?_
  apply Exists.intro
  refine ⟨fun w' hw' => ?_, ?_⟩
  · (obtain ⟨q0, q1, q2⟩ := hw')
    go_simp
    first | done | rfl
  try simp only [Act.put, List.setIfInBounds_toArray, List.set_cons_zero, List.set_cons_succ]
  refine UntH.take (i := 11) (some 135) rfl rfl (by kernel_rfl) (by kernel_rfl) (by kernel_rfl) (by kernel_rfl) (fun _ _ _ _ h => h) (by rfl) HS3.out ?_
  apply Exists.intro
  refine ⟨fun w' hw' => ?_, ?_⟩
  · (obtain ⟨q0, q1, q2⟩ := hw')
    go_simp
    first | done | rfl
  try simp only [Act.put, List.setIfInBounds_toArray, List.set_cons_zero, List.set_cons_succ]
  refine UntH.take (i := 12) (some 20) rfl rfl (by kernel_rfl) (by kernel_rfl) (by kernel_rfl) (by kernel_rfl) (fun _ _ _ _ h => h) (by rfl) HS3.out ?_
  apply Exists.intro
  refine ⟨fun w' hw' => ?_, ?_⟩
  · (obtain ⟨q0, q1, q2⟩ := hw')
    go_simp
    first | done | rfl
  try simp only [Act.put, List.setIfInBounds_toArray, List.set_cons_zero, List.set_cons_succ]
  refine UntH.last (by kernel_rfl) rfl (by kernel_rfl) (by kernel_rfl) (fun K hK => ?_)
  go_simp
  refine hK _ _ ?_
  clear hK K HS3 H2 W2 B2
  go_upto_region 16 with fail
  have H4 : Hid (SD w3.drew a x S M G.2.2 N P3 Q) := H3.out.below (Below.refl _ _).drew
  have W4 : Hid (WBk w3.drew wb a x lv) := W3.out
  have B4 : Hid (Bx w3.drew ob zn 5 zf zg zh zl zc iv cv) := B3.out
  have K4 : Hid (Kept P w2 w3.drew) := K3.out.drew
  refine wp_unt (S := fun V => V.cell? ⟨wb, 1, none⟩ = some (.pointer (some ⟨x, 0, none⟩)) ∧ V.cell? ⟨ob, 2, none⟩ = some (.int .i64 zf) ∧ V.cell? ⟨ob, 3, none⟩ = some (.int .i64 zg)) 13 (by kernel_rfl) ?_
  generalize w3.drew = w4 at *
  clear H3 W3 B3 K3
  have HS4 : Hid (w4.cell? ⟨wb, 1, none⟩ = some (.pointer (some ⟨x, 0, none⟩)) ∧ w4.cell? ⟨ob, 2, none⟩ = some (.int .i64 zf) ∧ w4.cell? ⟨ob, 3, none⟩ = some (.int .i64 zg)) := by have BX := B4.out; exact ⟨(W4.out).cells.2.1, BX.cells.2.2.1, BX.cells.2.2.2.1⟩
  refine UntH.take (i := 0) (some 137) rfl rfl (by kernel_rfl) (by kernel_rfl) (by kernel_rfl) (by kernel_rfl) (fun _ _ _ _ h => h) (by rfl) HS4.out ?_
  apply Exists.intro
  refine ⟨fun w' hw' => ?_, ?_⟩
  · (obtain ⟨q0, q1, q2⟩ := hw')
    go_simp
    first | done | rfl
  try simp only [Act.put, List.setIfInBounds_toArray, List.set_cons_zero, List.set_cons_succ]
  refine UntH.take (i := 1) (some 138) rfl rfl (by kernel_rfl) (by kernel_rfl) (by kernel_rfl) (by kernel_rfl) (fun _ _ _ _ h => h) (by rfl) HS4.out ?_
  apply Exists.intro
  refine ⟨fun w' hw' => ?_, ?_⟩
  · (obtain ⟨q0, q1, q2⟩ := hw')
    go_simp
    first | done | rfl
  try simp only [Act.put, List.setIfInBounds_toArray, List.set_cons_zero, List.set_cons_succ]
  refine UntH.take (i := 2) (some 139) rfl rfl (by kernel_rfl) (by kernel_rfl) (by kernel_rfl) (by kernel_rfl) (fun _ _ _ _ h => h) (by rfl) HS4.out ?_
  apply Exists.intro
  refine ⟨fun w' hw' => ?_, ?_⟩
  · (obtain ⟨q0, q1, q2⟩ := hw')
    go_simp
    first | done | rfl
  try simp only [Act.put, List.setIfInBounds_toArray, List.set_cons_zero, List.set_cons_succ]
  refine UntH.take (i := 3) (some 140) rfl rfl (by kernel_rfl) (by kernel_rfl) (by kernel_rfl) (by kernel_rfl) (fun _ _ _ _ h => h) (by rfl) HS4.out ?_
  apply Exists.intro
  refine ⟨fun w' hw' => ?_, ?_⟩
  · (obtain ⟨q0, q1, q2⟩ := hw')
    go_simp
    first | done | rfl
  try simp only [Act.put, List.setIfInBounds_toArray, List.set_cons_zero, List.set_cons_succ]
  refine UntH.take (i := 4) (some 141) rfl rfl (by kernel_rfl) (by kernel_rfl) (by kernel_rfl) (by kernel_rfl) (fun _ _ _ _ h => h) (by rfl) HS4.out ?_
  apply Exists.intro
  refine ⟨fun w' hw' => ?_, ?_⟩
  · (obtain ⟨q0, q1, q2⟩ := hw')
    go_simp
    first | done | rfl
  try simp only [Act.put, List.setIfInBounds_toArray, List.set_cons_zero, List.set_cons_succ]
  refine UntH.take (i := 5) (some 142) rfl rfl (by kernel_rfl) (by kernel_rfl) (by kernel_rfl) (by kernel_rfl) (fun _ _ _ _ h => h) (by rfl) HS4.out ?_
  apply Exists.intro
  refine ⟨fun w' hw' => ?_, ?_⟩
  · (obtain ⟨q0, q1, q2⟩ := hw')
    go_simp
    first | done | rfl
  try simp only [Act.put, List.setIfInBounds_toArray, List.set_cons_zero, List.set_cons_succ]
  refine UntH.take (i := 6) (some 143) rfl rfl (by kernel_rfl) (by kernel_rfl) (by kernel_rfl) (by kernel_rfl) (fun _ _ _ _ h => h) (by rfl) HS4.out ?_
  apply Exists.intro
  refine ⟨fun w' hw' => ?_, ?_⟩
  · (obtain ⟨q0, q1, q2⟩ := hw')
    go_simp
    first | done | rfl
  try simp only [Act.put, List.setIfInBounds_toArray, List.set_cons_zero, List.set_cons_succ]
  refine UntH.take (i := 7) (some 144) rfl rfl (by kernel_rfl) (by kernel_rfl) (by kernel_rfl) (by kernel_rfl) (fun _ _ _ _ h => h) (by rfl) HS4.out ?_
  apply Exists.intro
  refine ⟨fun w' hw' => ?_, ?_⟩
  · (obtain ⟨q0, q1, q2⟩ := hw')
    go_simp
    first | done | rfl
  try simp only [Act.put, List.setIfInBounds_toArray, List.set_cons_zero, List.set_cons_succ]
  refine UntH.step (i := 8) (by kernel_rfl) rfl (fun K hK => ?_)
  go_simp
  refine (HD.out _ H4.out.ra).mono ?_
  rintro e w5 dq
  obtain ⟨Q5, rfl, h5, k5, g5⟩ := H4.out.doc dq
  have H5 := hide h5
  have K5 := hide k5
  have G5 := hide g5
  clear dq h5 k5 g5
  have W5 : Hid (WBk w5 wb a x lv) := (K5.out.block _ (lt_of_block W4.out) NQ.out).trans W4.out
  have B5 := hide (B4.out.kept K5.out NQO.out)
  have HS5 : Hid (w5.cell? ⟨wb, 1, none⟩ = some (.pointer (some ⟨x, 0, none⟩)) ∧ w5.cell? ⟨ob, 2, none⟩ = some (.int .i64 zf) ∧ w5.cell? ⟨ob, 3, none⟩ = some (.int .i64 zg)) := by have BX := B5.out; exact ⟨(W5.out).cells.2.1, BX.cells.2.2.1, BX.cells.2.2.2.1⟩
  go_simp
  refine hK _ _ HS5.out ?_
  clear hK K HD HS4
  refine UntH.take (i := 9) (some 136) rfl rfl (by kernel_rfl) (by kernel_rfl) (by kernel_rfl) (by kernel_rfl) (fun _ _ _ _ h => h) (by rfl) HS5.out ?_
  apply Exists.intro
  refine ⟨fun w' hw' => ?_, ?_⟩
  · (obtain ⟨q0, q1, q2⟩ := hw')
    go_simp
    first | done | rfl
  try simp only [Act.put, List.setIfInBounds_toArray, List.set_cons_zero, List.set_cons_succ]
  refine UntH.take (i := 10) (some 146) rfl rfl (by kernel_rfl) (by kernel_rfl) (by kernel_rfl) (by kernel_rfl) (fun _ _ _ _ h => h) (by rfl) HS5.out ?_
  apply Exists.intro
  refine ⟨fun w' hw' => ?_, ?_⟩
  · (obtain ⟨q0, q1, q2⟩ := hw')
    go_simp
    first | done | rfl
  try simp only [Act.put, List.setIfInBounds_toArray, List.set_cons_zero, List.set_cons_succ]
  refine UntH.take (i := 11) (some 147) rfl rfl (by kernel_rfl) (by kernel_rfl) (by kernel_rfl) (by kernel_rfl) (fun _ _ _ _ h => h) (by rfl) HS5.out ?_
  apply Exists.intro
  refine ⟨fun w' hw' => ?_, ?_⟩
  · (obtain ⟨q0, q1, q2⟩ := hw')
    go_simp
    first | done | rfl
  try simp only [Act.put, List.setIfInBounds_toArray, List.set_cons_zero, List.set_cons_succ]
  refine UntH.take (i := 12) (some 22) rfl rfl (by kernel_rfl) (by kernel_rfl) (by kernel_rfl) (by kernel_rfl) (fun _ _ _ _ h => h) (by rfl) HS5.out ?_
  apply Exists.intro
  refine ⟨fun w' hw' => ?_, ?_⟩
  · (obtain ⟨q0, q1, q2⟩ := hw')
    go_simp
    first | done | rfl
  try simp only [Act.put, List.setIfInBounds_toArray, List.set_cons_zero, List.set_cons_succ]
  refine UntH.last (by kernel_rfl) rfl (by kernel_rfl) (by kernel_rfl) (fun K hK => ?_)
  go_simp
  refine hK _ _ ?_
  clear hK K HS5
  have FIN := hide (MzL.of Y2.out K4.out G3.out K5.out G5.out H5.out OK3.out)
  clear W4 B4 W5 B5 H4 H5 K4 K5 G3 G5 OK3 NP NQ NPO NQO Y2
  go_wp2
  refine bodyPost_ret (by simp [results, Try.results12, go_sem]; try rfl) rfl ?_
  exact FIN.out
set_option maxRecDepth 100000 in
set_option maxHeartbeats 4000000 in
theorem makes_6 {zn : Bool} {zf zg zh zl zc : Int} {iv cv : Value} (h : SD w a x S M N N P Q) (hb : WBk w wb a x lv) (np : ¬ P wb) (nq : ¬ Q wb)
    (hc : ∀ W, CA W a S M N 8192 P → Calls Try.prog 26 #[.pointer (some ⟨a, 0, none⟩), .int .i64 zf, .int .i64 zl, .int .i64 zc] W fun e w' => CQ a S M N P G W e w')
    (hd : ∀ W, RA W x S M N Q → Calls Try.prog 43 #[.pointer (some ⟨x, 0, none⟩), .int .i64 zf, .int .i64 zl, .int .i64 zc] W fun e w' => DQ x S M Q G W e w') :
    Calls Try.prog 12 #[.pointer (some ⟨wb, 0, none⟩), .agg #[.bool zn, .int .i64 6, .int .i64 zf, .int .i64 zg, .int .i64 zh, .int .i64 zl, .int .i64 zc, iv, cv]] w fun e w' => MzL a x S M N P Q G w e w' := by
  have y1 : Below w.heap.size w (w.alloc (.cells #[.bool zn, .int .i64 6, .int .i64 zf, .int .i64 zg, .int .i64 zh, .int .i64 zl, .int .i64 zc, iv, cv] 38)) := al (Below.refl _ _) _
  have bx1 : Bx (w.alloc (.cells #[.bool zn, .int .i64 6, .int .i64 zf, .int .i64 zg, .int .i64 zh, .int .i64 zl, .int .i64 zc, iv, cv] 38)) w.heap.size zn 6 zf zg zh zl zc iv cv := heap_alloc_new w _
  have H1 := hide (h.below y1)
  have W1 : Hid (WBk (w.alloc (.cells #[.bool zn, .int .i64 6, .int .i64 zf, .int .i64 zg, .int .i64 zh, .int .i64 zl, .int .i64 zc, iv, cv] 38)) wb a x lv) := (y1.block _ (lt_of_block hb)).trans hb
  have B1 := hide bx1
  have Y1 := hide y1
  have OB : Hid (∃ ob, ob = w.heap.size ∧ ¬ P ob ∧ ¬ Q ob) := ⟨_, rfl, fun hp => by have := h.ca.plt hp; omega, fun hq => by have := h.ra.plt hq; omega⟩
  have HC := hide hc
  have HD := hide hd
  have NP := hide np
  have NQ := hide nq
  clear h hb np nq hc hd y1 bx1
  go_enter Try.func12, Try.ntmps12
  go_upto_region 1 with fail
  generalize w.alloc (.cells #[.bool zn, .int .i64 6, .int .i64 zf, .int .i64 zg, .int .i64 zh, .int .i64 zl, .int .i64 zc, iv, cv] 38) = w1 at *
  obtain ⟨ob, hob, hpo, hqo⟩ := OB.out
  rw [← hob] at B1
  try rw [← hob]
  have NPO := hide hpo
  have NQO := hide hqo
  clear hob hpo hqo OB
  obtain ⟨o0, o1, o2, o3, o4, o5, o6, o7, o8⟩ := B1.out.cells
  go_upto_region 19 with fail
  clear o0 o1 o2 o3 o4 o5 o6 o7 o8
  have H2 : Hid (SD w1.drew a x S M N N P Q) := H1.out.below (Below.refl _ _).drew
  have W2 : Hid (WBk w1.drew wb a x lv) := W1.out
  have B2 : Hid (Bx w1.drew ob zn 6 zf zg zh zl zc iv cv) := B1.out
  have Y2 : Hid (Below w.heap.size w w1.drew) := Y1.out.drew
  refine wp_unt (S := fun V => V.cell? ⟨wb, 0, none⟩ = some (.pointer (some ⟨a, 0, none⟩)) ∧ V.cell? ⟨ob, 2, none⟩ = some (.int .i64 zf) ∧ V.cell? ⟨ob, 5, none⟩ = some (.int .i64 zl) ∧ V.cell? ⟨ob, 6, none⟩ = some (.int .i64 zc)) 15 (by kernel_rfl) ?_
  generalize w1.drew = w2 at *
  clear H1 W1 B1 Y1
  have HS2 : Hid (w2.cell? ⟨wb, 0, none⟩ = some (.pointer (some ⟨a, 0, none⟩)) ∧ w2.cell? ⟨ob, 2, none⟩ = some (.int .i64 zf) ∧ w2.cell? ⟨ob, 5, none⟩ = some (.int .i64 zl) ∧ w2.cell? ⟨ob, 6, none⟩ = some (.int .i64 zc)) := by have BX := B2.out; exact ⟨(W2.out).cells.1, BX.cells.2.2.1, BX.cells.2.2.2.2.2.1, BX.cells.2.2.2.2.2.2.1⟩
  refine UntH.take (i := 0) (some 155) rfl rfl (by kernel_rfl) (by kernel_rfl) (by kernel_rfl) (by kernel_rfl) (fun _ _ _ _ h => h) (by rfl) HS2.out ?_
  apply Exists.intro
  refine ⟨fun w' hw' => ?_, ?_⟩
  · (obtain ⟨q0, q1, q2, q3⟩ := hw')
    go_simp
    first | done | rfl
  try simp only [Act.put, List.setIfInBounds_toArray, List.set_cons_zero, List.set_cons_succ]
  refine UntH.take (i := 1) (some 156) rfl rfl (by kernel_rfl) (by kernel_rfl) (by kernel_rfl) (by kernel_rfl) (fun _ _ _ _ h => h) (by rfl) HS2.out ?_
  apply Exists.intro
  refine ⟨fun w' hw' => ?_, ?_⟩
  · (obtain ⟨q0, q1, q2, q3⟩ := hw')
    go_simp
    first | done | rfl
  try simp only [Act.put, List.setIfInBounds_toArray, List.set_cons_zero, List.set_cons_succ]
  refine UntH.take (i := 2) (some 157) rfl rfl (by kernel_rfl) (by kernel_rfl) (by kernel_rfl) (by kernel_rfl) (fun _ _ _ _ h => h) (by rfl) HS2.out ?_
  apply Exists.intro
  refine ⟨fun w' hw' => ?_, ?_⟩
  · (obtain ⟨q0, q1, q2, q3⟩ := hw')
    go_simp
    first | done | rfl
  try simp only [Act.put, List.setIfInBounds_toArray, List.set_cons_zero, List.set_cons_succ]
  refine UntH.take (i := 3) (some 158) rfl rfl (by kernel_rfl) (by kernel_rfl) (by kernel_rfl) (by kernel_rfl) (fun _ _ _ _ h => h) (by rfl) HS2.out ?_
  apply Exists.intro
  refine ⟨fun w' hw' => ?_, ?_⟩
  · (obtain ⟨q0, q1, q2, q3⟩ := hw')
    go_simp
    first | done | rfl
  try simp only [Act.put, List.setIfInBounds_toArray, List.set_cons_zero, List.set_cons_succ]
  refine UntH.take (i := 4) (some 159) rfl rfl (by kernel_rfl) (by kernel_rfl) (by kernel_rfl) (by kernel_rfl) (fun _ _ _ _ h => h) (by rfl) HS2.out ?_
  apply Exists.intro
  refine ⟨fun w' hw' => ?_, ?_⟩
  · (obtain ⟨q0, q1, q2, q3⟩ := hw')
    go_simp
    first | done | rfl
  try simp only [Act.put, List.setIfInBounds_toArray, List.set_cons_zero, List.set_cons_succ]
  refine UntH.take (i := 5) (some 160) rfl rfl (by kernel_rfl) (by kernel_rfl) (by kernel_rfl) (by kernel_rfl) (fun _ _ _ _ h => h) (by rfl) HS2.out ?_
  apply Exists.intro
  refine ⟨fun w' hw' => ?_, ?_⟩
  · (obtain ⟨q0, q1, q2, q3⟩ := hw')
    go_simp
    first | done | rfl
  try simp only [Act.put, List.setIfInBounds_toArray, List.set_cons_zero, List.set_cons_succ]
  refine UntH.take (i := 6) (some 161) rfl rfl (by kernel_rfl) (by kernel_rfl) (by kernel_rfl) (by kernel_rfl) (fun _ _ _ _ h => h) (by rfl) HS2.out ?_
  apply Exists.intro
  refine ⟨fun w' hw' => ?_, ?_⟩
  · (obtain ⟨q0, q1, q2, q3⟩ := hw')
    go_simp
    first | done | rfl
  try simp only [Act.put, List.setIfInBounds_toArray, List.set_cons_zero, List.set_cons_succ]
  refine UntH.take (i := 7) (some 162) rfl rfl (by kernel_rfl) (by kernel_rfl) (by kernel_rfl) (by kernel_rfl) (fun _ _ _ _ h => h) (by rfl) HS2.out ?_
  apply Exists.intro
  refine ⟨fun w' hw' => ?_, ?_⟩
  · (obtain ⟨q0, q1, q2, q3⟩ := hw')
    go_simp
    first | done | rfl
  try simp only [Act.put, List.setIfInBounds_toArray, List.set_cons_zero, List.set_cons_succ]
  refine UntH.take (i := 8) (some 163) rfl rfl (by kernel_rfl) (by kernel_rfl) (by kernel_rfl) (by kernel_rfl) (fun _ _ _ _ h => h) (by rfl) HS2.out ?_
  apply Exists.intro
  refine ⟨fun w' hw' => ?_, ?_⟩
  · (obtain ⟨q0, q1, q2, q3⟩ := hw')
    go_simp
    first | done | rfl
  try simp only [Act.put, List.setIfInBounds_toArray, List.set_cons_zero, List.set_cons_succ]
  refine UntH.take (i := 9) (some 164) rfl rfl (by kernel_rfl) (by kernel_rfl) (by kernel_rfl) (by kernel_rfl) (fun _ _ _ _ h => h) (by rfl) HS2.out ?_
  apply Exists.intro
  refine ⟨fun w' hw' => ?_, ?_⟩
  · (obtain ⟨q0, q1, q2, q3⟩ := hw')
    go_simp
    first | done | rfl
  try simp only [Act.put, List.setIfInBounds_toArray, List.set_cons_zero, List.set_cons_succ]
  refine UntH.step (i := 10) (by kernel_rfl) rfl (fun K hK => ?_)
  go_simp
  refine (HC.out _ H2.out.ca).mono ?_
  rintro e w3 cq
  obtain ⟨P3, rfl, h3, k3, g3, ok3⟩ := H2.out.code cq
  have H3 := hide h3
  have K3 := hide k3
  have G3 := hide g3
  have OK3 := hide ok3
  clear cq h3 k3 g3 ok3
  have W3 : Hid (WBk w3 wb a x lv) := (K3.out.block _ (lt_of_block W2.out) NP.out).trans W2.out
  have B3 := hide (B2.out.kept K3.out NPO.out)
  have HS3 : Hid (w3.cell? ⟨wb, 0, none⟩ = some (.pointer (some ⟨a, 0, none⟩)) ∧ w3.cell? ⟨ob, 2, none⟩ = some (.int .i64 zf) ∧ w3.cell? ⟨ob, 5, none⟩ = some (.int .i64 zl) ∧ w3.cell? ⟨ob, 6, none⟩ = some (.int .i64 zc)) := by have BX := B3.out; exact ⟨(W3.out).cells.1, BX.cells.2.2.1, BX.cells.2.2.2.2.2.1, BX.cells.2.2.2.2.2.2.1⟩
  go_simp
  refine hK _ _ HS3.out ?_
  clear hK K HC HS2
  refine UntH.take (i := 11) (some 154) rfl rfl (by kernel_rfl) (by kernel_rfl) (by kernel_rfl) (by kernel_rfl) (fun _ _ _ _ h => h) (by rfl) HS3.out ?_
  apply Exists.intro
  refine ⟨fun w' hw' => ?_, ?_⟩
  · (obtain ⟨q0, q1, q2, q3⟩ := hw')
    go_simp
    first | done | rfl
  try simp only [Act.put, List.setIfInBounds_toArray, List.set_cons_zero, List.set_cons_succ]
  refine UntH.take (i := 12) (some 166) rfl rfl (by kernel_rfl) (by kernel_rfl) (by kernel_rfl) (by kernel_rfl) (fun _ _ _ _ h => h) (by rfl) HS3.out ?_
  apply Exists.intro
  refine ⟨fun w' hw' => ?_, ?_⟩
  · (obtain ⟨q0, q1, q2, q3⟩ := hw')
    go_simp
    first | done | rfl
  try simp only [Act.put, List.setIfInBounds_toArray, List.set_cons_zero, List.set_cons_succ]
  refine UntH.take (i := 13) (some 167) rfl rfl (by kernel_rfl) (by kernel_rfl) (by kernel_rfl) (by kernel_rfl) (fun _ _ _ _ h => h) (by rfl) HS3.out ?_
  apply Exists.intro
  refine ⟨fun w' hw' => ?_, ?_⟩
  · (obtain ⟨q0, q1, q2, q3⟩ := hw')
    go_simp
    first | done | rfl
  try simp only [Act.put, List.setIfInBounds_toArray, List.set_cons_zero, List.set_cons_succ]
  refine UntH.take (i := 14) (some 24) rfl rfl (by kernel_rfl) (by kernel_rfl) (by kernel_rfl) (by kernel_rfl) (fun _ _ _ _ h => h) (by rfl) HS3.out ?_
  apply Exists.intro
  refine ⟨fun w' hw' => ?_, ?_⟩
  · (obtain ⟨q0, q1, q2, q3⟩ := hw')
    go_simp
    first | done | rfl
  try simp only [Act.put, List.setIfInBounds_toArray, List.set_cons_zero, List.set_cons_succ]
  refine UntH.last (by kernel_rfl) rfl (by kernel_rfl) (by kernel_rfl) (fun K hK => ?_)
  go_simp
  refine hK _ _ ?_
  clear hK K HS3 H2 W2 B2
  go_upto_region 20 with fail
  have H4 : Hid (SD w3.drew a x S M G.2.2 N P3 Q) := H3.out.below (Below.refl _ _).drew
  have W4 : Hid (WBk w3.drew wb a x lv) := W3.out
  have B4 : Hid (Bx w3.drew ob zn 6 zf zg zh zl zc iv cv) := B3.out
  have K4 : Hid (Kept P w2 w3.drew) := K3.out.drew
  refine wp_unt (S := fun V => V.cell? ⟨wb, 1, none⟩ = some (.pointer (some ⟨x, 0, none⟩)) ∧ V.cell? ⟨ob, 2, none⟩ = some (.int .i64 zf) ∧ V.cell? ⟨ob, 5, none⟩ = some (.int .i64 zl) ∧ V.cell? ⟨ob, 6, none⟩ = some (.int .i64 zc)) 15 (by kernel_rfl) ?_
  generalize w3.drew = w4 at *
  clear H3 W3 B3 K3
  have HS4 : Hid (w4.cell? ⟨wb, 1, none⟩ = some (.pointer (some ⟨x, 0, none⟩)) ∧ w4.cell? ⟨ob, 2, none⟩ = some (.int .i64 zf) ∧ w4.cell? ⟨ob, 5, none⟩ = some (.int .i64 zl) ∧ w4.cell? ⟨ob, 6, none⟩ = some (.int .i64 zc)) := by have BX := B4.out; exact ⟨(W4.out).cells.2.1, BX.cells.2.2.1, BX.cells.2.2.2.2.2.1, BX.cells.2.2.2.2.2.2.1⟩
  refine UntH.take (i := 0) (some 169) rfl rfl (by kernel_rfl) (by kernel_rfl) (by kernel_rfl) (by kernel_rfl) (fun _ _ _ _ h => h) (by rfl) HS4.out ?_
  apply Exists.intro
  refine ⟨fun w' hw' => ?_, ?_⟩
  · (obtain ⟨q0, q1, q2, q3⟩ := hw')
    go_simp
    first | done | rfl
  try simp only [Act.put, List.setIfInBounds_toArray, List.set_cons_zero, List.set_cons_succ]
  refine UntH.take (i := 1) (some 170) rfl rfl (by kernel_rfl) (by kernel_rfl) (by kernel_rfl) (by kernel_rfl) (fun _ _ _ _ h => h) (by rfl) HS4.out ?_
  apply Exists.intro
  refine ⟨fun w' hw' => ?_, ?_⟩
  · (obtain ⟨q0, q1, q2, q3⟩ := hw')
    go_simp
    first | done | rfl
  try simp only [Act.put, List.setIfInBounds_toArray, List.set_cons_zero, List.set_cons_succ]
  refine UntH.take (i := 2) (some 171) rfl rfl (by kernel_rfl) (by kernel_rfl) (by kernel_rfl) (by kernel_rfl) (fun _ _ _ _ h => h) (by rfl) HS4.out ?_
  apply Exists.intro
  refine ⟨fun w' hw' => ?_, ?_⟩
  · (obtain ⟨q0, q1, q2, q3⟩ := hw')
    go_simp
    first | done | rfl
  try simp only [Act.put, List.setIfInBounds_toArray, List.set_cons_zero, List.set_cons_succ]
  refine UntH.take (i := 3) (some 172) rfl rfl (by kernel_rfl) (by kernel_rfl) (by kernel_rfl) (by kernel_rfl) (fun _ _ _ _ h => h) (by rfl) HS4.out ?_
  apply Exists.intro
  refine ⟨fun w' hw' => ?_, ?_⟩
  · (obtain ⟨q0, q1, q2, q3⟩ := hw')
    go_simp
    first | done | rfl
  try simp only [Act.put, List.setIfInBounds_toArray, List.set_cons_zero, List.set_cons_succ]
  refine UntH.take (i := 4) (some 173) rfl rfl (by kernel_rfl) (by kernel_rfl) (by kernel_rfl) (by kernel_rfl) (fun _ _ _ _ h => h) (by rfl) HS4.out ?_
  apply Exists.intro
  refine ⟨fun w' hw' => ?_, ?_⟩
  · (obtain ⟨q0, q1, q2, q3⟩ := hw')
    go_simp
    first | done | rfl
  try simp only [Act.put, List.setIfInBounds_toArray, List.set_cons_zero, List.set_cons_succ]
  refine UntH.take (i := 5) (some 174) rfl rfl (by kernel_rfl) (by kernel_rfl) (by kernel_rfl) (by kernel_rfl) (fun _ _ _ _ h => h) (by rfl) HS4.out ?_
  apply Exists.intro
  refine ⟨fun w' hw' => ?_, ?_⟩
  · (obtain ⟨q0, q1, q2, q3⟩ := hw')
    go_simp
    first | done | rfl
  try simp only [Act.put, List.setIfInBounds_toArray, List.set_cons_zero, List.set_cons_succ]
  refine UntH.take (i := 6) (some 175) rfl rfl (by kernel_rfl) (by kernel_rfl) (by kernel_rfl) (by kernel_rfl) (fun _ _ _ _ h => h) (by rfl) HS4.out ?_
  apply Exists.intro
  refine ⟨fun w' hw' => ?_, ?_⟩
  · (obtain ⟨q0, q1, q2, q3⟩ := hw')
    go_simp
    first | done | rfl
  try simp only [Act.put, List.setIfInBounds_toArray, List.set_cons_zero, List.set_cons_succ]
  refine UntH.take (i := 7) (some 176) rfl rfl (by kernel_rfl) (by kernel_rfl) (by kernel_rfl) (by kernel_rfl) (fun _ _ _ _ h => h) (by rfl) HS4.out ?_
  apply Exists.intro
  refine ⟨fun w' hw' => ?_, ?_⟩
  · (obtain ⟨q0, q1, q2, q3⟩ := hw')
    go_simp
    first | done | rfl
  try simp only [Act.put, List.setIfInBounds_toArray, List.set_cons_zero, List.set_cons_succ]
  refine UntH.take (i := 8) (some 177) rfl rfl (by kernel_rfl) (by kernel_rfl) (by kernel_rfl) (by kernel_rfl) (fun _ _ _ _ h => h) (by rfl) HS4.out ?_
  apply Exists.intro
  refine ⟨fun w' hw' => ?_, ?_⟩
  · (obtain ⟨q0, q1, q2, q3⟩ := hw')
    go_simp
    first | done | rfl
  try simp only [Act.put, List.setIfInBounds_toArray, List.set_cons_zero, List.set_cons_succ]
  refine UntH.take (i := 9) (some 178) rfl rfl (by kernel_rfl) (by kernel_rfl) (by kernel_rfl) (by kernel_rfl) (fun _ _ _ _ h => h) (by rfl) HS4.out ?_
  apply Exists.intro
  refine ⟨fun w' hw' => ?_, ?_⟩
  · (obtain ⟨q0, q1, q2, q3⟩ := hw')
    go_simp
    first | done | rfl
  try simp only [Act.put, List.setIfInBounds_toArray, List.set_cons_zero, List.set_cons_succ]
  refine UntH.step (i := 10) (by kernel_rfl) rfl (fun K hK => ?_)
  go_simp
  refine (HD.out _ H4.out.ra).mono ?_
  rintro e w5 dq
  obtain ⟨Q5, rfl, h5, k5, g5⟩ := H4.out.doc dq
  have H5 := hide h5
  have K5 := hide k5
  have G5 := hide g5
  clear dq h5 k5 g5
  have W5 : Hid (WBk w5 wb a x lv) := (K5.out.block _ (lt_of_block W4.out) NQ.out).trans W4.out
  have B5 := hide (B4.out.kept K5.out NQO.out)
  have HS5 : Hid (w5.cell? ⟨wb, 1, none⟩ = some (.pointer (some ⟨x, 0, none⟩)) ∧ w5.cell? ⟨ob, 2, none⟩ = some (.int .i64 zf) ∧ w5.cell? ⟨ob, 5, none⟩ = some (.int .i64 zl) ∧ w5.cell? ⟨ob, 6, none⟩ = some (.int .i64 zc)) := by have BX := B5.out; exact ⟨(W5.out).cells.2.1, BX.cells.2.2.1, BX.cells.2.2.2.2.2.1, BX.cells.2.2.2.2.2.2.1⟩
  go_simp
  refine hK _ _ HS5.out ?_
  clear hK K HD HS4
  refine UntH.take (i := 11) (some 168) rfl rfl (by kernel_rfl) (by kernel_rfl) (by kernel_rfl) (by kernel_rfl) (fun _ _ _ _ h => h) (by rfl) HS5.out ?_
  apply Exists.intro
  refine ⟨fun w' hw' => ?_, ?_⟩
  · (obtain ⟨q0, q1, q2, q3⟩ := hw')
    go_simp
    first | done | rfl
  try simp only [Act.put, List.setIfInBounds_toArray, List.set_cons_zero, List.set_cons_succ]
  refine UntH.take (i := 12) (some 180) rfl rfl (by kernel_rfl) (by kernel_rfl) (by kernel_rfl) (by kernel_rfl) (fun _ _ _ _ h => h) (by rfl) HS5.out ?_
  apply Exists.intro
  refine ⟨fun w' hw' => ?_, ?_⟩
  · (obtain ⟨q0, q1, q2, q3⟩ := hw')
    go_simp
    first | done | rfl
  try simp only [Act.put, List.setIfInBounds_toArray, List.set_cons_zero, List.set_cons_succ]
  refine UntH.take (i := 13) (some 181) rfl rfl (by kernel_rfl) (by kernel_rfl) (by kernel_rfl) (by kernel_rfl) (fun _ _ _ _ h => h) (by rfl) HS5.out ?_
  apply Exists.intro
  refine ⟨fun w' hw' => ?_, ?_⟩
  · (obtain ⟨q0, q1, q2, q3⟩ := hw')
    go_simp
    first | done | rfl
  try simp only [Act.put, List.setIfInBounds_toArray, List.set_cons_zero, List.set_cons_succ]
  refine UntH.take (i := 14) (some 26) rfl rfl (by kernel_rfl) (by kernel_rfl) (by kernel_rfl) (by kernel_rfl) (fun _ _ _ _ h => h) (by rfl) HS5.out ?_
  apply Exists.intro
  refine ⟨fun w' hw' => ?_, ?_⟩
  · (obtain ⟨q0, q1, q2, q3⟩ := hw')
    go_simp
    first | done | rfl
  try simp only [Act.put, List.setIfInBounds_toArray, List.set_cons_zero, List.set_cons_succ]
  refine UntH.last (by kernel_rfl) rfl (by kernel_rfl) (by kernel_rfl) (fun K hK => ?_)
  go_simp
  refine hK _ _ ?_
  clear hK K HS5
  have FIN := hide (MzL.of Y2.out K4.out G3.out K5.out G5.out H5.out OK3.out)
  clear W4 B4 W5 B5 H4 H5 K4 K5 G3 G5 OK3 NP NQ NPO NQO Y2
  go_wp2
  refine bodyPost_ret (by simp [results, Try.results12, go_sem]; try rfl) rfl ?_
  exact FIN.out
end
end Go.Proofs.Ytaafeflbanoncaa
