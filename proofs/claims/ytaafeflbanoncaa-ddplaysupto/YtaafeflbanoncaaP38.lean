/-
  makes by its contract: Set, in both arenas. Condition: what the step brings lies in a process's memory.
-/
import Derived.Test.YtaafeflbanoncaaP35
import Derived.Test.YtaafeflbanoncaaP37
namespace Go.Proofs.Ytaafeflbanoncaa
open Go.RowKit Go.Lib Go.Maps

theorem Try.size4 : (Try.prog.info? 4).map (·.size) = some 1 := by
  obtain ⟨i0, hi, hz0, hz1, hz2⟩ := info_parts Try.info4
  rw [hi]; simp [hz1]
theorem make_boolsB (n : Nat) (L : Int) (hL : L = (n : Int)) (hn : n ≤ 200000000000000) (V : World) : (Instr.makeSlice 36 (.int .i64 L) (.int .i64 L)).run Try.prog V = .ok (.slice (some ⟨V.heap.size, 0, none⟩) n n) (V.alloc (.cells (bC (List.replicate n false)).toArray 4)) := by
  subst hL
  have := run_make_row' (P := Try.prog) 36 4 (.bool false) 1 Try.underlying36 Try.info4 rfl .i64 .i64 n (by omega) (by omega) V
  rw [made_cells] at this
  rw [this]
  simp [bC]
theorem bC_one (L : List Bool) : ∀ u ∈ bC L, u.oneCell' = true := fun u hu => by
  obtain ⟨b, _, rfl⟩ := List.mem_map.1 hu
  rfl
theorem BAt.cells {w : World} {ad : Addr} {L : List Bool} (h : BAt w (some ad) L) : ∀ j v, (bC L)[j]? = some v → w.cell? (ad.add j) = some v := fun j v hv => by
  have hj : j < L.length := by
    rcases Nat.lt_or_ge j L.length with h | h
    · exact h
    · rw [List.getElem?_eq_none (by rw [bC_length]; exact h)] at hv; cases hv
  obtain ⟨b, off, e, _, g⟩ := h.get hj
  injection e with e
  subst e
  rw [bC_get L hj] at hv
  injection hv with hv
  subst hv
  rw [addr_add]
  exact g
theorem BAt.kept {F : Nat → Prop} {w w' : World} {ao : Option Addr} {L : List Bool} (h : BAt w ao L) (hk : Kept F w w') (hF : ∀ b off, ao = some ⟨b, off, none⟩ → L ≠ [] → ¬ F b) : BAt w' ao L := by
  by_cases h0 : L = []
  · exact .inl h0
  rcases h with h | ⟨b, off, e, h1, h2⟩
  · exact .inl h
  · exact .inr ⟨b, off, e, Nat.lt_of_lt_of_le h1 hk.size, fun i hi => (hk.cell (p := ⟨b, off + i, none⟩) h1 (hF b off e h0)).trans (h2 i hi)⟩
theorem kept_setRow (w : World) (g : Nat) (cs : Array Value) : Kept (fun b => b = g) w (w.setRow g cs) := ⟨rfl, rfl, rfl, by simp [World.setRow], fun k _ hf => setRow_other w g k cs hf⟩
/-- A row of bools, whole. -/
def RwB (w : World) (b : Nat) (L : List Bool) : Prop := w.heap[b]? = some (.cells (bC L).toArray 4 (0, 0))
theorem RwB.cell {w : World} {b : Nat} {L : List Bool} (h : RwB w b L) {k : Nat} (hk : k < L.length) : w.cell? ⟨b, k, none⟩ = some (.bool (L.getD k false)) := by
  rw [cell_of_row w b k _ _ _ h, List.getElem?_toArray, bC_get L hk]
theorem RwB.front {w : World} {b : Nat} {L T : List Bool} (h : RwB w b (L ++ T)) : BAt w (some ⟨b, 0, none⟩) L := .inr ⟨b, 0, rfl, lt_of_block h, fun i hi => by
  rw [Nat.zero_add, h.cell (by rw [List.length_append]; omega), List.getD_eq_getElem?_getD, List.getElem?_append_left hi, ← List.getD_eq_getElem?_getD]⟩
section
variable {w : World} {a x wb : Nat} {S : List Int} {M : Int} {N : List Nd} {P Q : Nat → Prop} {G : Int × Int × List Nd} {lv : Value}
set_option maxRecDepth 100000 in
set_option maxHeartbeats 8000000 in
theorem makes_set {zn : Bool} {zw zf zg zh zl zc : Int} {ia : Option Addr} {ic : Nat} {cv : Value} {IN : List Bool} (h : SD w a x S M N N P Q) (hb : WBk w wb a x lv) (np : ¬ P wb) (nq : ¬ Q wb) (hwt : zw < 2 ∨ 6 < zw) (hin : BAt w ia IN) (hil : IN.length ≤ 140737488351232) (hia : ∀ b off, ia = some ⟨b, off, none⟩ → IN ≠ [] → ¬ P b ∧ ¬ Q b)
    (hc : ∀ W ao cap, CA W a S M N 8192 P → BAt W ao IN → Calls Try.prog 23 #[.pointer (some ⟨a, 0, none⟩), .int .i64 zl, .slice ao IN.length cap] W fun e w' => CQ a S M N P G W e w')
    (hd : ∀ W ao cap, RA W x S M N Q → BAt W ao IN → Calls Try.prog 44 #[.pointer (some ⟨x, 0, none⟩), .int .i64 zl, .slice ao IN.length cap] W fun e w' => DQ x S M Q G W e w') :
    Calls Try.prog 12 #[.pointer (some ⟨wb, 0, none⟩), .agg #[.bool zn, .int .i64 zw, .int .i64 zf, .int .i64 zg, .int .i64 zh, .int .i64 zl, .int .i64 zc, .slice ia IN.length ic, cv]] w fun e w' => MzL a x S M N P Q G w e w' := by
  have y1 : Below w.heap.size w (w.alloc (.cells #[.bool zn, .int .i64 zw, .int .i64 zf, .int .i64 zg, .int .i64 zh, .int .i64 zl, .int .i64 zc, .slice ia IN.length ic, cv] 38)) := al (Below.refl _ _) _
  have bx1 : Bx (w.alloc (.cells #[.bool zn, .int .i64 zw, .int .i64 zf, .int .i64 zg, .int .i64 zh, .int .i64 zl, .int .i64 zc, .slice ia IN.length ic, cv] 38)) w.heap.size zn zw zf zg zh zl zc (.slice ia IN.length ic) cv := heap_alloc_new w _
  have H1 := hide (h.below y1)
  have W1 : Hid (WBk (w.alloc (.cells #[.bool zn, .int .i64 zw, .int .i64 zf, .int .i64 zg, .int .i64 zh, .int .i64 zl, .int .i64 zc, .slice ia IN.length ic, cv] 38)) wb a x lv) := (y1.block _ (lt_of_block hb)).trans hb
  have I1 := hide (hin.below y1)
  have B1 := hide bx1
  have Y1 := hide y1
  have OB : Hid (∃ ob, ob = w.heap.size ∧ ¬ P ob ∧ ¬ Q ob) := ⟨_, rfl, fun hp => by have := h.ca.plt hp; omega, fun hq => by have := h.ra.plt hq; omega⟩
  have HC := hide hc
  have HD := hide hd
  have NP := hide np
  have NQ := hide nq
  have HIA := hide hia
  have n2 : (zw == 2) = false := beq_eq_false_iff_ne.2 (by omega)
  have n3 : (zw == 3) = false := beq_eq_false_iff_ne.2 (by omega)
  have n4 : (zw == 4) = false := beq_eq_false_iff_ne.2 (by omega)
  have n5 : (zw == 5) = false := beq_eq_false_iff_ne.2 (by omega)
  have n6 : (zw == 6) = false := beq_eq_false_iff_ne.2 (by omega)
  clear h hb np nq hc hd y1 bx1 hin hia hwt
  go_enter Try.func12, Try.ntmps12
  go_upto_region 1 with fail
  generalize w.alloc (.cells #[.bool zn, .int .i64 zw, .int .i64 zf, .int .i64 zg, .int .i64 zh, .int .i64 zl, .int .i64 zc, .slice ia IN.length ic, cv] 38) = w1 at *
  obtain ⟨ob, hob, hpo, hqo⟩ := OB.out
  rw [← hob] at B1
  try rw [← hob]
  have NPO := hide hpo
  have NQO := hide hqo
  clear hob hpo hqo OB
  obtain ⟨o0, o1, o2, o3, o4, o5, o6, o7, o8⟩ := B1.out.cells
  have hmk := make_boolsB (IN.length + 2) ((IN.length : Int) + 2) (by omega) (by omega)
  have hwr : IntKind.i64.wrap ((IN.length : Int) + 2) = (IN.length : Int) + 2 := by simp [IntKind.wrap, IntKind.bits, IntKind.signed]; omega
  go_upto_region 23 with fail
  clear n2 n3 n4 n5 n6 hmk hwr o0 o1 o2 o3 o4 o5 o6 o7 o8
  have y2 : Below w1.heap.size w1 (w1.alloc (.cells (bC (List.replicate (IN.length + 2) false)).toArray 4)) := al (Below.refl _ _) _
  have b2 : RwB (w1.alloc (.cells (bC (List.replicate (IN.length + 2) false)).toArray 4)) w1.heap.size (List.replicate (IN.length + 2) false) := heap_alloc_new w1 _
  have H2 := hide (H1.out.below y2)
  have W2 : Hid (WBk (w1.alloc (.cells (bC (List.replicate (IN.length + 2) false)).toArray 4)) wb a x lv) := (y2.block _ (lt_of_block W1.out)).trans W1.out
  have I2 := hide (I1.out.below y2)
  have B2 := hide (B1.out.below y2)
  have Y2 := hide (bt Y1.out y2 (Nat.le_refl _))
  have R2 := hide b2
  have NB : Hid (∃ nb, nb = w1.heap.size ∧ ¬ P nb ∧ ¬ Q nb ∧ w.heap.size ≤ nb ∧ wb < nb ∧ ob < nb) := ⟨_, rfl, fun hp => by have := H1.out.ca.plt hp; omega, fun hq => by have := H1.out.ra.plt hq; omega, Y1.out.size, lt_of_block W1.out, lt_of_block B1.out⟩
  have I2N : Hid (∀ b off, ia = some ⟨b, off, none⟩ → IN ≠ [] → b < w1.heap.size) := fun b off e h0 => by
    rcases I1.out with h | ⟨b', off', e', hb, _⟩
    · exact absurd h h0
    · rw [e] at e'
      injection e' with e'
      injection e' with e' _
      omega
  clear y2 b2
  generalize w1.alloc (.cells (bC (List.replicate (IN.length + 2) false)).toArray 4) = w2 at *
  obtain ⟨nb, hnb, hnp, hnq, hnw, hnwb, hnob⟩ := NB.out
  rw [← hnb] at R2 I2N
  try rw [← hnb]
  have NPN := hide hnp
  have NQN := hide hnq
  have HNW := hide hnw
  clear hnb hnp hnq NB H1 W1 I1 B1 Y1 w1
  have HNE := hide (And.intro hnwb hnob)
  clear hnw hnwb hnob
  obtain ⟨o0, o1, o2, o3, o4, o5, o6, o7, o8⟩ := B2.out.cells
  have hcur : bC IN ++ ((bC (List.replicate (IN.length + 2) false)).toArray.toList).drop (bC IN).length = bC (IN ++ [false, false]) := by
    rw [bC_length]
    simp [bC]
  go_upto_region 24 with (refine wpList_copy_wide rfl (.tmp 191) (.tmp 193) 36 36 rfl 4 1 Try.underlying36 Try.size4 nb (IN.length + 2) (IN.length + 2) ia IN.length ic rfl rfl _ 4 R2.out (bC IN) (by rw [bC_length, Nat.mul_one]) (by omega) (fun e => by rcases I2.out with h | ⟨b, off, e2, _⟩; (rw [h]; rfl); (rw [e] at e2; cases e2)) (fun ad e => by subst e; exact I2.out.cells) (by simp [bC]) (bC_one IN) ?_; rw [hcur])
  clear o0 o1 o2 o3 o4 o5 o6 o7 o8 hcur
  have KR : Hid (Kept (fun b => b = nb) w2 (w2.setRow nb (bC (IN ++ [false, false])).toArray)) := kept_setRow w2 nb _
  have R3 : Hid (RwB (w2.setRow nb (bC (IN ++ [false, false])).toArray) nb (IN ++ [false, false])) := setRow_heap w2 nb _ _ 4 _ R2.out
  have H3 : Hid (SD (w2.setRow nb (bC (IN ++ [false, false])).toArray) a x S M N N P Q) := ⟨H2.out.ca.kept KR.out (fun b hb e => NPN.out (e ▸ hb)), H2.out.ra.kept KR.out (fun b hb e => NQN.out (e ▸ hb)), H2.out.dis⟩
  have W3 : Hid (WBk (w2.setRow nb (bC (IN ++ [false, false])).toArray) wb a x lv) := (KR.out.block _ (lt_of_block W2.out) (fun e => by have := HNE.out.1; omega)).trans W2.out
  have B3 := hide (B2.out.kept KR.out (fun e => by have := HNE.out.2; omega))
  have I3 := hide (I2.out.kept KR.out (fun b off e h0 e2 => by have := I2N.out b off e h0; omega))
  have Y3 := hide (Y2.out.trans (KR.out.below Y2.out.size (fun i hi => by have := HNW.out; omega)))
  generalize w2.setRow nb (bC (IN ++ [false, false])).toArray = w3 at *
  clear H2 W2 B2 I2 Y2 R2 KR I2N HNE
  have R4 : Hid (RwB w3.drew nb (IN ++ [false, false])) := R3.out
  have H4 : Hid (SD w3.drew a x S M N N P Q) := H3.out.below (Below.refl _ _).drew
  have W4 : Hid (WBk w3.drew wb a x lv) := W3.out
  have B4 : Hid (Bx w3.drew ob zn zw zf zg zh zl zc (.slice ia IN.length ic) cv) := B3.out
  have I4 := hide (I3.out.below ((Below.refl w3.heap.size w3).drew))
  have Y4 : Hid (Below w.heap.size w w3.drew) := Y3.out.drew
  have hle2 : (IN.length : Int) ≤ (IN.length : Int) + 2 := by omega
  have hle3 : IN.length ≤ IN.length + 2 := by omega
  refine wp_unt (S := fun V => V.cell? ⟨wb, 0, none⟩ = some (.pointer (some ⟨a, 0, none⟩)) ∧ V.cell? ⟨ob, 5, none⟩ = some (.int .i64 zl) ∧ V.cell? ⟨ob, 7, none⟩ = some (.slice ia IN.length ic)) 16 (by kernel_rfl) ?_
  generalize w3.drew = w4 at *
  clear R3 H3 W3 B3 I3 Y3
  have HS4 : Hid (w4.cell? ⟨wb, 0, none⟩ = some (.pointer (some ⟨a, 0, none⟩)) ∧ w4.cell? ⟨ob, 5, none⟩ = some (.int .i64 zl) ∧ w4.cell? ⟨ob, 7, none⟩ = some (.slice ia IN.length ic)) := ⟨W4.out.cells.1, B4.out.cells.2.2.2.2.2.1, B4.out.cells.2.2.2.2.2.2.2.1⟩
  refine UntH.take (i := 0) (some 196) rfl rfl (by kernel_rfl) (by kernel_rfl) (by kernel_rfl) (by kernel_rfl) (fun _ _ _ _ h => h) (by rfl) HS4.out ?_
  apply Exists.intro
  refine ⟨fun w' hw' => ?_, ?_⟩
  · (obtain ⟨q0, q1, q2⟩ := hw')
    go_simp
    first | done | rfl
  try simp only [Act.put, List.setIfInBounds_toArray, List.set_cons_zero, List.set_cons_succ]
  refine UntH.take (i := 1) (some 197) rfl rfl (by kernel_rfl) (by kernel_rfl) (by kernel_rfl) (by kernel_rfl) (fun _ _ _ _ h => h) (by rfl) HS4.out ?_
  apply Exists.intro
  refine ⟨fun w' hw' => ?_, ?_⟩
  · (obtain ⟨q0, q1, q2⟩ := hw')
    go_simp
    first | done | rfl
  try simp only [Act.put, List.setIfInBounds_toArray, List.set_cons_zero, List.set_cons_succ]
  refine UntH.take (i := 2) (some 198) rfl rfl (by kernel_rfl) (by kernel_rfl) (by kernel_rfl) (by kernel_rfl) (fun _ _ _ _ h => h) (by rfl) HS4.out ?_
  apply Exists.intro
  refine ⟨fun w' hw' => ?_, ?_⟩
  · (obtain ⟨q0, q1, q2⟩ := hw')
    go_simp
    first | done | rfl
  try simp only [Act.put, List.setIfInBounds_toArray, List.set_cons_zero, List.set_cons_succ]
  refine UntH.take (i := 3) (some 199) rfl rfl (by kernel_rfl) (by kernel_rfl) (by kernel_rfl) (by kernel_rfl) (fun _ _ _ _ h => h) (by rfl) HS4.out ?_
  apply Exists.intro
  refine ⟨fun w' hw' => ?_, ?_⟩
  · (obtain ⟨q0, q1, q2⟩ := hw')
    go_simp
    first | done | rfl
  try simp only [Act.put, List.setIfInBounds_toArray, List.set_cons_zero, List.set_cons_succ]
  refine UntH.take (i := 4) (some 200) rfl rfl (by kernel_rfl) (by kernel_rfl) (by kernel_rfl) (by kernel_rfl) (fun _ _ _ _ h => h) (by rfl) HS4.out ?_
  apply Exists.intro
  refine ⟨fun w' hw' => ?_, ?_⟩
  · (obtain ⟨q0, q1, q2⟩ := hw')
    go_simp
    first | done | rfl
  try simp only [Act.put, List.setIfInBounds_toArray, List.set_cons_zero, List.set_cons_succ]
  refine UntH.take (i := 5) (some 201) rfl rfl (by kernel_rfl) (by kernel_rfl) (by kernel_rfl) (by kernel_rfl) (fun _ _ _ _ h => h) (by rfl) HS4.out ?_
  apply Exists.intro
  refine ⟨fun w' hw' => ?_, ?_⟩
  · (obtain ⟨q0, q1, q2⟩ := hw')
    go_simp
    first | done | rfl
  try simp only [Act.put, List.setIfInBounds_toArray, List.set_cons_zero, List.set_cons_succ]
  refine UntH.take (i := 6) (some 202) rfl rfl (by kernel_rfl) (by kernel_rfl) (by kernel_rfl) (by kernel_rfl) (fun _ _ _ _ h => h) (by rfl) HS4.out ?_
  apply Exists.intro
  refine ⟨fun w' hw' => ?_, ?_⟩
  · (obtain ⟨q0, q1, q2⟩ := hw')
    go_simp
    first | done | rfl
  try simp only [Act.put, List.setIfInBounds_toArray, List.set_cons_zero, List.set_cons_succ]
  refine UntH.take (i := 7) (some 203) rfl rfl (by kernel_rfl) (by kernel_rfl) (by kernel_rfl) (by kernel_rfl) (fun _ _ _ _ h => h) (by rfl) HS4.out ?_
  apply Exists.intro
  refine ⟨fun w' hw' => ?_, ?_⟩
  · (obtain ⟨q0, q1, q2⟩ := hw')
    go_simp
    first | done | rfl
  try simp only [Act.put, List.setIfInBounds_toArray, List.set_cons_zero, List.set_cons_succ]
  refine UntH.take (i := 8) (some 204) rfl rfl (by kernel_rfl) (by kernel_rfl) (by kernel_rfl) (by kernel_rfl) (fun _ _ _ _ h => h) (by rfl) HS4.out ?_
  apply Exists.intro
  refine ⟨fun w' hw' => ?_, ?_⟩
  · (obtain ⟨q0, q1, q2⟩ := hw')
    go_simp
    first | done | rfl
  try simp only [Act.put, List.setIfInBounds_toArray, List.set_cons_zero, List.set_cons_succ]
  refine UntH.take (i := 9) (some 205) rfl rfl (by kernel_rfl) (by kernel_rfl) (by kernel_rfl) (by kernel_rfl) (fun _ _ _ _ h => h) (by rfl) HS4.out ?_
  apply Exists.intro
  refine ⟨fun w' hw' => ?_, ?_⟩
  · (obtain ⟨q0, q1, q2⟩ := hw')
    go_simp
    first | done | rfl
  try simp only [Act.put, List.setIfInBounds_toArray, List.set_cons_zero, List.set_cons_succ]
  refine UntH.take (i := 10) (some 206) rfl rfl (by kernel_rfl) (by kernel_rfl) (by kernel_rfl) (by kernel_rfl) (fun _ _ _ _ h => h) (by rfl) HS4.out ?_
  apply Exists.intro
  refine ⟨fun w' hw' => ?_, ?_⟩
  · (obtain ⟨q0, q1, q2⟩ := hw')
    go_simp
    first | done | rfl
  try simp only [Act.put, List.setIfInBounds_toArray, List.set_cons_zero, List.set_cons_succ]
  refine UntH.step (i := 11) (by kernel_rfl) rfl (fun K hK => ?_)
  go_simp
  refine (HC.out _ _ _ H4.out.ca R4.out.front).mono ?_
  rintro e w5 cq
  obtain ⟨P5, rfl, h5, k5, g5, ok5⟩ := H4.out.code cq
  have H5 := hide h5
  have K5 := hide k5
  have G5 := hide g5
  have OK5 := hide ok5
  clear cq h5 k5 g5 ok5
  have W5 : Hid (WBk w5 wb a x lv) := (K5.out.block _ (lt_of_block W4.out) NP.out).trans W4.out
  have B5 := hide (B4.out.kept K5.out NPO.out)
  have R5 : Hid (RwB w5 nb (IN ++ [false, false])) := (K5.out.block _ (lt_of_block R4.out) NPN.out).trans R4.out
  have I5 := hide (I4.out.kept K5.out (fun b off e h0 => (HIA.out b off e h0).1))
  have HS5 : Hid (w5.cell? ⟨wb, 0, none⟩ = some (.pointer (some ⟨a, 0, none⟩)) ∧ w5.cell? ⟨ob, 5, none⟩ = some (.int .i64 zl) ∧ w5.cell? ⟨ob, 7, none⟩ = some (.slice ia IN.length ic)) := ⟨W5.out.cells.1, B5.out.cells.2.2.2.2.2.1, B5.out.cells.2.2.2.2.2.2.2.1⟩
  go_simp
  refine hK _ _ HS5.out ?_
  clear hK K HC HS4
  refine UntH.take (i := 12) (some 195) rfl rfl (by kernel_rfl) (by kernel_rfl) (by kernel_rfl) (by kernel_rfl) (fun _ _ _ _ h => h) (by rfl) HS5.out ?_
  apply Exists.intro
  refine ⟨fun w' hw' => ?_, ?_⟩
  · (obtain ⟨q0, q1, q2⟩ := hw')
    go_simp
    first | done | rfl
  try simp only [Act.put, List.setIfInBounds_toArray, List.set_cons_zero, List.set_cons_succ]
  refine UntH.take (i := 13) (some 208) rfl rfl (by kernel_rfl) (by kernel_rfl) (by kernel_rfl) (by kernel_rfl) (fun _ _ _ _ h => h) (by rfl) HS5.out ?_
  apply Exists.intro
  refine ⟨fun w' hw' => ?_, ?_⟩
  · (obtain ⟨q0, q1, q2⟩ := hw')
    go_simp
    first | done | rfl
  try simp only [Act.put, List.setIfInBounds_toArray, List.set_cons_zero, List.set_cons_succ]
  refine UntH.take (i := 14) (some 209) rfl rfl (by kernel_rfl) (by kernel_rfl) (by kernel_rfl) (by kernel_rfl) (fun _ _ _ _ h => h) (by rfl) HS5.out ?_
  apply Exists.intro
  refine ⟨fun w' hw' => ?_, ?_⟩
  · (obtain ⟨q0, q1, q2⟩ := hw')
    go_simp
    first | done | rfl
  try simp only [Act.put, List.setIfInBounds_toArray, List.set_cons_zero, List.set_cons_succ]
  refine UntH.take (i := 15) (some 29) rfl rfl (by kernel_rfl) (by kernel_rfl) (by kernel_rfl) (by kernel_rfl) (fun _ _ _ _ h => h) (by rfl) HS5.out ?_
  apply Exists.intro
  refine ⟨fun w' hw' => ?_, ?_⟩
  · (obtain ⟨q0, q1, q2⟩ := hw')
    go_simp
    first | done | rfl
  try simp only [Act.put, List.setIfInBounds_toArray, List.set_cons_zero, List.set_cons_succ]
  refine UntH.last (by kernel_rfl) rfl (by kernel_rfl) (by kernel_rfl) (fun K hK => ?_)
  go_simp
  refine hK _ _ ?_
  clear hK K HS5 H4 W4 B4 R4 I4
  go_upto_region 25 with fail
  have H6 : Hid (SD w5.drew a x S M G.2.2 N P5 Q) := H5.out.below (Below.refl _ _).drew
  have W6 : Hid (WBk w5.drew wb a x lv) := W5.out
  have B6 : Hid (Bx w5.drew ob zn zw zf zg zh zl zc (.slice ia IN.length ic) cv) := B5.out
  have R6 : Hid (RwB w5.drew nb (IN ++ [false, false])) := R5.out
  have I6 := hide (I5.out.below ((Below.refl w5.heap.size w5).drew))
  have K6 : Hid (Kept P w4 w5.drew) := K5.out.drew
  refine wp_unt (S := fun V => V.cell? ⟨wb, 1, none⟩ = some (.pointer (some ⟨x, 0, none⟩)) ∧ V.cell? ⟨ob, 5, none⟩ = some (.int .i64 zl) ∧ V.cell? ⟨ob, 7, none⟩ = some (.slice ia IN.length ic)) 13 (by kernel_rfl) ?_
  generalize w5.drew = w6 at *
  clear R5 H5 W5 B5 I5 K5
  have HS6 : Hid (w6.cell? ⟨wb, 1, none⟩ = some (.pointer (some ⟨x, 0, none⟩)) ∧ w6.cell? ⟨ob, 5, none⟩ = some (.int .i64 zl) ∧ w6.cell? ⟨ob, 7, none⟩ = some (.slice ia IN.length ic)) := ⟨W6.out.cells.2.1, B6.out.cells.2.2.2.2.2.1, B6.out.cells.2.2.2.2.2.2.2.1⟩
  refine UntH.take (i := 0) (some 211) rfl rfl (by kernel_rfl) (by kernel_rfl) (by kernel_rfl) (by kernel_rfl) (fun _ _ _ _ h => h) (by rfl) HS6.out ?_
  apply Exists.intro
  refine ⟨fun w' hw' => ?_, ?_⟩
  · (obtain ⟨q0, q1, q2⟩ := hw')
    go_simp
    first | done | rfl
  try simp only [Act.put, List.setIfInBounds_toArray, List.set_cons_zero, List.set_cons_succ]
  refine UntH.take (i := 1) (some 212) rfl rfl (by kernel_rfl) (by kernel_rfl) (by kernel_rfl) (by kernel_rfl) (fun _ _ _ _ h => h) (by rfl) HS6.out ?_
  apply Exists.intro
  refine ⟨fun w' hw' => ?_, ?_⟩
  · (obtain ⟨q0, q1, q2⟩ := hw')
    go_simp
    first | done | rfl
  try simp only [Act.put, List.setIfInBounds_toArray, List.set_cons_zero, List.set_cons_succ]
  refine UntH.take (i := 2) (some 213) rfl rfl (by kernel_rfl) (by kernel_rfl) (by kernel_rfl) (by kernel_rfl) (fun _ _ _ _ h => h) (by rfl) HS6.out ?_
  apply Exists.intro
  refine ⟨fun w' hw' => ?_, ?_⟩
  · (obtain ⟨q0, q1, q2⟩ := hw')
    go_simp
    first | done | rfl
  try simp only [Act.put, List.setIfInBounds_toArray, List.set_cons_zero, List.set_cons_succ]
  refine UntH.take (i := 3) (some 214) rfl rfl (by kernel_rfl) (by kernel_rfl) (by kernel_rfl) (by kernel_rfl) (fun _ _ _ _ h => h) (by rfl) HS6.out ?_
  apply Exists.intro
  refine ⟨fun w' hw' => ?_, ?_⟩
  · (obtain ⟨q0, q1, q2⟩ := hw')
    go_simp
    first | done | rfl
  try simp only [Act.put, List.setIfInBounds_toArray, List.set_cons_zero, List.set_cons_succ]
  refine UntH.take (i := 4) (some 215) rfl rfl (by kernel_rfl) (by kernel_rfl) (by kernel_rfl) (by kernel_rfl) (fun _ _ _ _ h => h) (by rfl) HS6.out ?_
  apply Exists.intro
  refine ⟨fun w' hw' => ?_, ?_⟩
  · (obtain ⟨q0, q1, q2⟩ := hw')
    go_simp
    first | done | rfl
  try simp only [Act.put, List.setIfInBounds_toArray, List.set_cons_zero, List.set_cons_succ]
  refine UntH.take (i := 5) (some 216) rfl rfl (by kernel_rfl) (by kernel_rfl) (by kernel_rfl) (by kernel_rfl) (fun _ _ _ _ h => h) (by rfl) HS6.out ?_
  apply Exists.intro
  refine ⟨fun w' hw' => ?_, ?_⟩
  · (obtain ⟨q0, q1, q2⟩ := hw')
    go_simp
    first | done | rfl
  try simp only [Act.put, List.setIfInBounds_toArray, List.set_cons_zero, List.set_cons_succ]
  refine UntH.take (i := 6) (some 217) rfl rfl (by kernel_rfl) (by kernel_rfl) (by kernel_rfl) (by kernel_rfl) (fun _ _ _ _ h => h) (by rfl) HS6.out ?_
  apply Exists.intro
  refine ⟨fun w' hw' => ?_, ?_⟩
  · (obtain ⟨q0, q1, q2⟩ := hw')
    go_simp
    first | done | rfl
  try simp only [Act.put, List.setIfInBounds_toArray, List.set_cons_zero, List.set_cons_succ]
  refine UntH.take (i := 7) (some 218) rfl rfl (by kernel_rfl) (by kernel_rfl) (by kernel_rfl) (by kernel_rfl) (fun _ _ _ _ h => h) (by rfl) HS6.out ?_
  apply Exists.intro
  refine ⟨fun w' hw' => ?_, ?_⟩
  · (obtain ⟨q0, q1, q2⟩ := hw')
    go_simp
    first | done | rfl
  try simp only [Act.put, List.setIfInBounds_toArray, List.set_cons_zero, List.set_cons_succ]
  refine UntH.step (i := 8) (by kernel_rfl) rfl (fun K hK => ?_)
  go_simp
  refine (HD.out _ _ _ H6.out.ra I6.out).mono ?_
  rintro e w7 dq
  obtain ⟨Q7, rfl, h7, k7, g7⟩ := H6.out.doc dq
  have H7 := hide h7
  have K7 := hide k7
  have G7 := hide g7
  clear dq h7 k7 g7
  have W7 : Hid (WBk w7 wb a x lv) := (K7.out.block _ (lt_of_block W6.out) NQ.out).trans W6.out
  have B7 := hide (B6.out.kept K7.out NQO.out)
  have R7 : Hid (RwB w7 nb (IN ++ [false, false])) := (K7.out.block _ (lt_of_block R6.out) NQN.out).trans R6.out
  have I7 := hide (I6.out.kept K7.out (fun b off e h0 => (HIA.out b off e h0).2))
  have HS7 : Hid (w7.cell? ⟨wb, 1, none⟩ = some (.pointer (some ⟨x, 0, none⟩)) ∧ w7.cell? ⟨ob, 5, none⟩ = some (.int .i64 zl) ∧ w7.cell? ⟨ob, 7, none⟩ = some (.slice ia IN.length ic)) := ⟨W7.out.cells.2.1, B7.out.cells.2.2.2.2.2.1, B7.out.cells.2.2.2.2.2.2.2.1⟩
  go_simp
  refine hK _ _ HS7.out ?_
  clear hK K HD HS6
  refine UntH.take (i := 9) (some 210) rfl rfl (by kernel_rfl) (by kernel_rfl) (by kernel_rfl) (by kernel_rfl) (fun _ _ _ _ h => h) (by rfl) HS7.out ?_
  apply Exists.intro
  refine ⟨fun w' hw' => ?_, ?_⟩
  · (obtain ⟨q0, q1, q2⟩ := hw')
    go_simp
    first | done | rfl
  try simp only [Act.put, List.setIfInBounds_toArray, List.set_cons_zero, List.set_cons_succ]
  refine UntH.take (i := 10) (some 220) rfl rfl (by kernel_rfl) (by kernel_rfl) (by kernel_rfl) (by kernel_rfl) (fun _ _ _ _ h => h) (by rfl) HS7.out ?_
  apply Exists.intro
  refine ⟨fun w' hw' => ?_, ?_⟩
  · (obtain ⟨q0, q1, q2⟩ := hw')
    go_simp
    first | done | rfl
  try simp only [Act.put, List.setIfInBounds_toArray, List.set_cons_zero, List.set_cons_succ]
  refine UntH.take (i := 11) (some 221) rfl rfl (by kernel_rfl) (by kernel_rfl) (by kernel_rfl) (by kernel_rfl) (fun _ _ _ _ h => h) (by rfl) HS7.out ?_
  apply Exists.intro
  refine ⟨fun w' hw' => ?_, ?_⟩
  · (obtain ⟨q0, q1, q2⟩ := hw')
    go_simp
    first | done | rfl
  try simp only [Act.put, List.setIfInBounds_toArray, List.set_cons_zero, List.set_cons_succ]
  refine UntH.take (i := 12) (some 31) rfl rfl (by kernel_rfl) (by kernel_rfl) (by kernel_rfl) (by kernel_rfl) (fun _ _ _ _ h => h) (by rfl) HS7.out ?_
  apply Exists.intro
  refine ⟨fun w' hw' => ?_, ?_⟩
  · (obtain ⟨q0, q1, q2⟩ := hw')
    go_simp
    first | done | rfl
  try simp only [Act.put, List.setIfInBounds_toArray, List.set_cons_zero, List.set_cons_succ]
  refine UntH.last (by kernel_rfl) rfl (by kernel_rfl) (by kernel_rfl) (fun K hK => ?_)
  go_simp
  refine hK _ _ ?_
  clear hK K HS7 H6 W6 B6 R6 I6 W7 NP NQ NPO NQO NPN NQN HIA
  have FIN : Hid (∀ W, Below w7.heap.size w7 W → MzL a x S M N P Q G w (.returned (.tuple #[.int .i64 G.1, .int .i64 G.2.1, .int .i64 G.1, .int .i64 G.2.1])) W) := fun W y => MzL.of Y4.out K6.out G5.out (K7.out.trans (Kept.of_below y)) G7.out (H7.out.below y) OK5.out
  clear Y4 K6 G5 K7 G7 H7 OK5
  go_wp2
  go_loopw [33] (fun v wr => ∃ k : Nat, k ≤ IN.length + 2 ∧ v = .int .i64 k ∧ Hid (Below w7.heap.size w7 wr)) (fun v _ => IN.length + 2 - (RowKit.intOf v).toNat)
  case atStart => exact ⟨0, Nat.zero_le _, rfl, hide (Below.refl _ _)⟩
  case round =>
    obtain ⟨k, hk, rfl, Y⟩ := hrel
    by_cases hlt : k < IN.length + 2
    · have hlt' : (k : Int) < (IN.length : Int) + 2 := by omega
      have y8 : Hid (Below w7.heap.size w7 wr.drew) := Y.out.drew
      have u7 : wr.drew.cell? ⟨ob, 7, none⟩ = some (.slice ia IN.length ic) := (B7.out.below y8.out).cells.2.2.2.2.2.2.2.1
      have uo := (R7.out.cell (k := k) (by simp; omega)) |> (y8.out.cell (p := ⟨nb, k, none⟩) (lt_of_block R7.out)).trans
      by_cases hin : k < IN.length
      · have hin' : (k : Int) < (IN.length : Int) := by omega
        have hin2 : ¬ (IN.length : Int) ≤ (k : Int) := by omega
        have hin3 : ¬ IN.length ≤ k := by omega
        obtain ⟨bi, oi, hia, hbi, g9⟩ := (I7.out.below y8.out).get hin
        subst hia
        have eq1 : (IN ++ [false, false]).getD k false = IN.getD k false := by rw [List.getD_eq_getElem?_getD, List.getElem?_append_left hin, ← List.getD_eq_getElem?_getD]
        rw [eq1] at uo
        generalize hbv : IN.getD k false = bv at *
        have hbb : (bv != bv) = false := by cases bv <;> rfl
        clear hbv eq1 hbi
        go_upto_region 29 with fail
        refine wp_unt (S := fun V => V = wr.drew) 29 (by kernel_rfl) ?_
        generalize wr.drew = w8 at *
        refine UntH.take (i := 0) (some 228) rfl rfl (by kernel_rfl) (by kernel_rfl) (by kernel_rfl) (by kernel_rfl) (fun _ _ _ _ h => h) (by rfl) rfl ?_
        apply Exists.intro
        refine ⟨fun w' hw' => ?_, ?_⟩
        · subst hw'
          go_simp
          first | done | rfl
        try simp only [Act.put, List.setIfInBounds_toArray, List.set_cons_zero, List.set_cons_succ]
        refine UntH.take (i := 1) (some 229) rfl rfl (by kernel_rfl) (by kernel_rfl) (by kernel_rfl) (by kernel_rfl) (fun _ _ _ _ h => h) (by rfl) rfl ?_
        apply Exists.intro
        refine ⟨fun w' hw' => ?_, ?_⟩
        · subst hw'
          go_simp
          first | done | rfl
        try simp only [Act.put, List.setIfInBounds_toArray, List.set_cons_zero, List.set_cons_succ]
        refine UntH.take (i := 2) (some 230) rfl rfl (by kernel_rfl) (by kernel_rfl) (by kernel_rfl) (by kernel_rfl) (fun _ _ _ _ h => h) (by rfl) rfl ?_
        apply Exists.intro
        refine ⟨fun w' hw' => ?_, ?_⟩
        · subst hw'
          go_simp
          first | done | rfl
        try simp only [Act.put, List.setIfInBounds_toArray, List.set_cons_zero, List.set_cons_succ]
        refine UntH.take (i := 3) (some 231) rfl rfl (by kernel_rfl) (by kernel_rfl) (by kernel_rfl) (by kernel_rfl) (fun _ _ _ _ h => h) (by rfl) rfl ?_
        apply Exists.intro
        refine ⟨fun w' hw' => ?_, ?_⟩
        · subst hw'
          go_simp
          first | done | rfl
        try simp only [Act.put, List.setIfInBounds_toArray, List.set_cons_zero, List.set_cons_succ]
        refine UntH.take (i := 4) (some 232) rfl rfl (by kernel_rfl) (by kernel_rfl) (by kernel_rfl) (by kernel_rfl) (fun _ _ _ _ h => h) (by rfl) rfl ?_
        apply Exists.intro
        refine ⟨fun w' hw' => ?_, ?_⟩
        · subst hw'
          go_simp
          first | done | rfl
        try simp only [Act.put, List.setIfInBounds_toArray, List.set_cons_zero, List.set_cons_succ]
        refine UntH.take (i := 5) (some 233) rfl rfl (by kernel_rfl) (by kernel_rfl) (by kernel_rfl) (by kernel_rfl) (fun _ _ _ _ h => h) (by rfl) rfl ?_
        apply Exists.intro
        refine ⟨fun w' hw' => ?_, ?_⟩
        · subst hw'
          go_simp
          first | done | rfl
        try simp only [Act.put, List.setIfInBounds_toArray, List.set_cons_zero, List.set_cons_succ]
        refine UntH.take (i := 6) (some 234) rfl rfl (by kernel_rfl) (by kernel_rfl) (by kernel_rfl) (by kernel_rfl) (fun _ _ _ _ h => h) (by rfl) rfl ?_
        apply Exists.intro
        refine ⟨fun w' hw' => ?_, ?_⟩
        · subst hw'
          go_simp
          first | done | rfl
        try simp only [Act.put, List.setIfInBounds_toArray, List.set_cons_zero, List.set_cons_succ]
        refine UntH.take (i := 7) (some 235) rfl rfl (by kernel_rfl) (by kernel_rfl) (by kernel_rfl) (by kernel_rfl) (fun _ _ _ _ h => h) (by rfl) rfl ?_
        apply Exists.intro
        refine ⟨fun w' hw' => ?_, ?_⟩
        · subst hw'
          go_simp
          first | done | rfl
        try simp only [Act.put, List.setIfInBounds_toArray, List.set_cons_zero, List.set_cons_succ]
        refine UntH.take (i := 8) (some 236) rfl rfl (by kernel_rfl) (by kernel_rfl) (by kernel_rfl) (by kernel_rfl) (fun _ _ _ _ h => h) (by rfl) rfl ?_
        apply Exists.intro
        refine ⟨fun w' hw' => ?_, ?_⟩
        · subst hw'
          go_simp
          first | done | rfl
        try simp only [Act.put, List.setIfInBounds_toArray, List.set_cons_zero, List.set_cons_succ]
        refine UntH.take (i := 9) (some 237) rfl rfl (by kernel_rfl) (by kernel_rfl) (by kernel_rfl) (by kernel_rfl) (fun _ _ _ _ h => h) (by rfl) rfl ?_
        apply Exists.intro
        refine ⟨fun w' hw' => ?_, ?_⟩
        · subst hw'
          go_simp
          first | done | rfl
        try simp only [Act.put, List.setIfInBounds_toArray, List.set_cons_zero, List.set_cons_succ]
        refine UntH.take (i := 10) (some 238) rfl rfl (by kernel_rfl) (by kernel_rfl) (by kernel_rfl) (by kernel_rfl) (fun _ _ _ _ h => h) (by rfl) rfl ?_
        apply Exists.intro
        refine ⟨fun w' hw' => ?_, ?_⟩
        · subst hw'
          go_simp
          first | done | rfl
        try simp only [Act.put, List.setIfInBounds_toArray, List.set_cons_zero, List.set_cons_succ]
        refine UntH.take (i := 11) (some 239) rfl rfl (by kernel_rfl) (by kernel_rfl) (by kernel_rfl) (by kernel_rfl) (fun _ _ _ _ h => h) (by rfl) rfl ?_
        apply Exists.intro
        refine ⟨fun w' hw' => ?_, ?_⟩
        · subst hw'
          go_simp
          first | done | rfl
        try simp only [Act.put, List.setIfInBounds_toArray, List.set_cons_zero, List.set_cons_succ]
        refine UntH.take (i := 12) (some 240) rfl rfl (by kernel_rfl) (by kernel_rfl) (by kernel_rfl) (by kernel_rfl) (fun _ _ _ _ h => h) (by rfl) rfl ?_
        apply Exists.intro
        refine ⟨fun w' hw' => ?_, ?_⟩
        · subst hw'
          go_simp
          first | done | rfl
        try simp only [Act.put, List.setIfInBounds_toArray, List.set_cons_zero, List.set_cons_succ]
        refine UntH.take (i := 13) (some 241) rfl rfl (by kernel_rfl) (by kernel_rfl) (by kernel_rfl) (by kernel_rfl) (fun _ _ _ _ h => h) (by rfl) rfl ?_
        apply Exists.intro
        refine ⟨fun w' hw' => ?_, ?_⟩
        · subst hw'
          go_simp
          first | done | rfl
        try simp only [Act.put, List.setIfInBounds_toArray, List.set_cons_zero, List.set_cons_succ]
        refine UntH.take (i := 14) (some 242) rfl rfl (by kernel_rfl) (by kernel_rfl) (by kernel_rfl) (by kernel_rfl) (fun _ _ _ _ h => h) (by rfl) rfl ?_
        apply Exists.intro
        refine ⟨fun w' hw' => ?_, ?_⟩
        · subst hw'
          go_simp
          first | done | rfl
        try simp only [Act.put, List.setIfInBounds_toArray, List.set_cons_zero, List.set_cons_succ]
        refine UntH.take (i := 15) (some 243) rfl rfl (by kernel_rfl) (by kernel_rfl) (by kernel_rfl) (by kernel_rfl) (fun _ _ _ _ h => h) (by rfl) rfl ?_
        apply Exists.intro
        refine ⟨fun w' hw' => ?_, ?_⟩
        · subst hw'
          go_simp
          first | done | rfl
        try simp only [Act.put, List.setIfInBounds_toArray, List.set_cons_zero, List.set_cons_succ]
        refine UntH.take (i := 16) (some 244) rfl rfl (by kernel_rfl) (by kernel_rfl) (by kernel_rfl) (by kernel_rfl) (fun _ _ _ _ h => h) (by rfl) rfl ?_
        apply Exists.intro
        refine ⟨fun w' hw' => ?_, ?_⟩
        · subst hw'
          go_simp
          first | done | rfl
        try simp only [Act.put, List.setIfInBounds_toArray, List.set_cons_zero, List.set_cons_succ]
        refine UntH.take (i := 17) (some 245) rfl rfl (by kernel_rfl) (by kernel_rfl) (by kernel_rfl) (by kernel_rfl) (fun _ _ _ _ h => h) (by rfl) rfl ?_
        apply Exists.intro
        refine ⟨fun w' hw' => ?_, ?_⟩
        · subst hw'
          go_simp
          first | done | rfl
        try simp only [Act.put, List.setIfInBounds_toArray, List.set_cons_zero, List.set_cons_succ]
        refine UntH.take (i := 18) (some 246) rfl rfl (by kernel_rfl) (by kernel_rfl) (by kernel_rfl) (by kernel_rfl) (fun _ _ _ _ h => h) (by rfl) rfl ?_
        apply Exists.intro
        refine ⟨fun w' hw' => ?_, ?_⟩
        · subst hw'
          go_simp
          first | done | rfl
        try simp only [Act.put, List.setIfInBounds_toArray, List.set_cons_zero, List.set_cons_succ]
        refine UntH.take (i := 19) (some 247) rfl rfl (by kernel_rfl) (by kernel_rfl) (by kernel_rfl) (by kernel_rfl) (fun _ _ _ _ h => h) (by rfl) rfl ?_
        apply Exists.intro
        refine ⟨fun w' hw' => ?_, ?_⟩
        · subst hw'
          go_simp
          first | done | rfl
        try simp only [Act.put, List.setIfInBounds_toArray, List.set_cons_zero, List.set_cons_succ]
        refine UntH.take (i := 20) (some 248) rfl rfl (by kernel_rfl) (by kernel_rfl) (by kernel_rfl) (by kernel_rfl) (fun _ _ _ _ h => h) (by rfl) rfl ?_
        apply Exists.intro
        refine ⟨fun w' hw' => ?_, ?_⟩
        · subst hw'
          go_simp
          first | done | rfl
        try simp only [Act.put, List.setIfInBounds_toArray, List.set_cons_zero, List.set_cons_succ]
        refine UntH.take (i := 21) (some 249) rfl rfl (by kernel_rfl) (by kernel_rfl) (by kernel_rfl) (by kernel_rfl) (fun _ _ _ _ h => h) (by rfl) rfl ?_
        apply Exists.intro
        refine ⟨fun w' hw' => ?_, ?_⟩
        · subst hw'
          go_simp
          first | done | rfl
        try simp only [Act.put, List.setIfInBounds_toArray, List.set_cons_zero, List.set_cons_succ]
        refine UntH.take (i := 22) (some 250) rfl rfl (by kernel_rfl) (by kernel_rfl) (by kernel_rfl) (by kernel_rfl) (fun _ _ _ _ h => h) (by rfl) rfl ?_
        apply Exists.intro
        refine ⟨fun w' hw' => ?_, ?_⟩
        · subst hw'
          go_simp
          first | done | rfl
        try simp only [Act.put, List.setIfInBounds_toArray, List.set_cons_zero, List.set_cons_succ]
        refine UntH.take (i := 23) (some 251) rfl rfl (by kernel_rfl) (by kernel_rfl) (by kernel_rfl) (by kernel_rfl) (fun _ _ _ _ h => h) (by rfl) rfl ?_
        apply Exists.intro
        refine ⟨fun w' hw' => ?_, ?_⟩
        · subst hw'
          go_simp
          first | done | rfl
        try simp only [Act.put, List.setIfInBounds_toArray, List.set_cons_zero, List.set_cons_succ]
        refine UntH.skip (i := 24) (some 252) rfl rfl (by kernel_rfl) (by kernel_rfl) (by kernel_rfl) (by kernel_rfl) (fun _ _ _ _ h => h) (by rfl) rfl ?_
        try simp only [Act.put, List.setIfInBounds_toArray, List.set_cons_zero, List.set_cons_succ]
        refine UntH.skip (i := 25) (some 253) rfl rfl (by kernel_rfl) (by kernel_rfl) (by kernel_rfl) (by kernel_rfl) (fun _ _ _ _ h => h) (by rfl) rfl ?_
        try simp only [Act.put, List.setIfInBounds_toArray, List.set_cons_zero, List.set_cons_succ]
        refine UntH.skip (i := 26) (some 254) rfl rfl (by kernel_rfl) (by kernel_rfl) (by kernel_rfl) (by kernel_rfl) (fun _ _ _ _ h => h) (by rfl) rfl ?_
        try simp only [Act.put, List.setIfInBounds_toArray, List.set_cons_zero, List.set_cons_succ]
        refine UntH.skip (i := 27) (some 255) rfl rfl (by kernel_rfl) (by kernel_rfl) (by kernel_rfl) (by kernel_rfl) (fun _ _ _ _ h => h) (by rfl) rfl ?_
        try simp only [Act.put, List.setIfInBounds_toArray, List.set_cons_zero, List.set_cons_succ]
        refine UntH.take (i := 28) (some 256) rfl rfl (by kernel_rfl) (by kernel_rfl) (by kernel_rfl) (by kernel_rfl) (fun _ _ _ _ h => h) (by rfl) rfl ?_
        apply Exists.intro
        refine ⟨fun w' hw' => ?_, ?_⟩
        · subst hw'
          go_simp
          first | done | rfl
        try simp only [Act.put, List.setIfInBounds_toArray, List.set_cons_zero, List.set_cons_succ]
        refine UntH.last (by kernel_rfl) rfl (by kernel_rfl) (by kernel_rfl) (fun K hK => ?_)
        go_simp
        refine hK _ _ ?_
        clear hK K u7 uo g9
        go_wp2
        go_roundw
        case rel => exact ⟨k + 1, by omega, by go_num, y8⟩
        case measure => simp [RowKit.intOf]; omega
      · have hin' : ¬ (k : Int) < (IN.length : Int) := by omega
        have hin2 : (IN.length : Int) ≤ (k : Int) := by omega
        have hin3 : IN.length ≤ k := by omega
        have eq1 : (IN ++ [false, false]).getD k false = false := by
          rw [List.getD_eq_getElem?_getD, List.getElem?_append_right hin3]
          have : k - IN.length = 0 ∨ k - IN.length = 1 := by omega
          rcases this with e | e <;> rw [e] <;> rfl
        rw [eq1] at uo
        clear eq1
        go_upto_region 29 with fail
        refine wp_unt (S := fun V => V = wr.drew) 29 (by kernel_rfl) ?_
        generalize wr.drew = w8 at *
        refine UntH.take (i := 0) (some 228) rfl rfl (by kernel_rfl) (by kernel_rfl) (by kernel_rfl) (by kernel_rfl) (fun _ _ _ _ h => h) (by rfl) rfl ?_
        apply Exists.intro
        refine ⟨fun w' hw' => ?_, ?_⟩
        · subst hw'
          go_simp
          first | done | rfl
        try simp only [Act.put, List.setIfInBounds_toArray, List.set_cons_zero, List.set_cons_succ]
        refine UntH.take (i := 1) (some 229) rfl rfl (by kernel_rfl) (by kernel_rfl) (by kernel_rfl) (by kernel_rfl) (fun _ _ _ _ h => h) (by rfl) rfl ?_
        apply Exists.intro
        refine ⟨fun w' hw' => ?_, ?_⟩
        · subst hw'
          go_simp
          first | done | rfl
        try simp only [Act.put, List.setIfInBounds_toArray, List.set_cons_zero, List.set_cons_succ]
        refine UntH.take (i := 2) (some 230) rfl rfl (by kernel_rfl) (by kernel_rfl) (by kernel_rfl) (by kernel_rfl) (fun _ _ _ _ h => h) (by rfl) rfl ?_
        apply Exists.intro
        refine ⟨fun w' hw' => ?_, ?_⟩
        · subst hw'
          go_simp
          first | done | rfl
        try simp only [Act.put, List.setIfInBounds_toArray, List.set_cons_zero, List.set_cons_succ]
        refine UntH.take (i := 3) (some 231) rfl rfl (by kernel_rfl) (by kernel_rfl) (by kernel_rfl) (by kernel_rfl) (fun _ _ _ _ h => h) (by rfl) rfl ?_
        apply Exists.intro
        refine ⟨fun w' hw' => ?_, ?_⟩
        · subst hw'
          go_simp
          first | done | rfl
        try simp only [Act.put, List.setIfInBounds_toArray, List.set_cons_zero, List.set_cons_succ]
        refine UntH.take (i := 4) (some 232) rfl rfl (by kernel_rfl) (by kernel_rfl) (by kernel_rfl) (by kernel_rfl) (fun _ _ _ _ h => h) (by rfl) rfl ?_
        apply Exists.intro
        refine ⟨fun w' hw' => ?_, ?_⟩
        · subst hw'
          go_simp
          first | done | rfl
        try simp only [Act.put, List.setIfInBounds_toArray, List.set_cons_zero, List.set_cons_succ]
        refine UntH.take (i := 5) (some 233) rfl rfl (by kernel_rfl) (by kernel_rfl) (by kernel_rfl) (by kernel_rfl) (fun _ _ _ _ h => h) (by rfl) rfl ?_
        apply Exists.intro
        refine ⟨fun w' hw' => ?_, ?_⟩
        · subst hw'
          go_simp
          first | done | rfl
        try simp only [Act.put, List.setIfInBounds_toArray, List.set_cons_zero, List.set_cons_succ]
        refine UntH.skip (i := 6) (some 234) rfl rfl (by kernel_rfl) (by kernel_rfl) (by kernel_rfl) (by kernel_rfl) (fun _ _ _ _ h => h) (by rfl) rfl ?_
        try simp only [Act.put, List.setIfInBounds_toArray, List.set_cons_zero, List.set_cons_succ]
        refine UntH.skip (i := 7) (some 235) rfl rfl (by kernel_rfl) (by kernel_rfl) (by kernel_rfl) (by kernel_rfl) (fun _ _ _ _ h => h) (by rfl) rfl ?_
        try simp only [Act.put, List.setIfInBounds_toArray, List.set_cons_zero, List.set_cons_succ]
        refine UntH.skip (i := 8) (some 236) rfl rfl (by kernel_rfl) (by kernel_rfl) (by kernel_rfl) (by kernel_rfl) (fun _ _ _ _ h => h) (by rfl) rfl ?_
        try simp only [Act.put, List.setIfInBounds_toArray, List.set_cons_zero, List.set_cons_succ]
        refine UntH.skip (i := 9) (some 237) rfl rfl (by kernel_rfl) (by kernel_rfl) (by kernel_rfl) (by kernel_rfl) (fun _ _ _ _ h => h) (by rfl) rfl ?_
        try simp only [Act.put, List.setIfInBounds_toArray, List.set_cons_zero, List.set_cons_succ]
        refine UntH.skip (i := 10) (some 238) rfl rfl (by kernel_rfl) (by kernel_rfl) (by kernel_rfl) (by kernel_rfl) (fun _ _ _ _ h => h) (by rfl) rfl ?_
        try simp only [Act.put, List.setIfInBounds_toArray, List.set_cons_zero, List.set_cons_succ]
        refine UntH.skip (i := 11) (some 239) rfl rfl (by kernel_rfl) (by kernel_rfl) (by kernel_rfl) (by kernel_rfl) (fun _ _ _ _ h => h) (by rfl) rfl ?_
        try simp only [Act.put, List.setIfInBounds_toArray, List.set_cons_zero, List.set_cons_succ]
        refine UntH.skip (i := 12) (some 240) rfl rfl (by kernel_rfl) (by kernel_rfl) (by kernel_rfl) (by kernel_rfl) (fun _ _ _ _ h => h) (by rfl) rfl ?_
        try simp only [Act.put, List.setIfInBounds_toArray, List.set_cons_zero, List.set_cons_succ]
        refine UntH.skip (i := 13) (some 241) rfl rfl (by kernel_rfl) (by kernel_rfl) (by kernel_rfl) (by kernel_rfl) (fun _ _ _ _ h => h) (by rfl) rfl ?_
        try simp only [Act.put, List.setIfInBounds_toArray, List.set_cons_zero, List.set_cons_succ]
        refine UntH.skip (i := 14) (some 242) rfl rfl (by kernel_rfl) (by kernel_rfl) (by kernel_rfl) (by kernel_rfl) (fun _ _ _ _ h => h) (by rfl) rfl ?_
        try simp only [Act.put, List.setIfInBounds_toArray, List.set_cons_zero, List.set_cons_succ]
        refine UntH.skip (i := 15) (some 243) rfl rfl (by kernel_rfl) (by kernel_rfl) (by kernel_rfl) (by kernel_rfl) (fun _ _ _ _ h => h) (by rfl) rfl ?_
        try simp only [Act.put, List.setIfInBounds_toArray, List.set_cons_zero, List.set_cons_succ]
        refine UntH.take (i := 16) (some 244) rfl rfl (by kernel_rfl) (by kernel_rfl) (by kernel_rfl) (by kernel_rfl) (fun _ _ _ _ h => h) (by rfl) rfl ?_
        apply Exists.intro
        refine ⟨fun w' hw' => ?_, ?_⟩
        · subst hw'
          go_simp
          first | done | rfl
        try simp only [Act.put, List.setIfInBounds_toArray, List.set_cons_zero, List.set_cons_succ]
        refine UntH.take (i := 17) (some 245) rfl rfl (by kernel_rfl) (by kernel_rfl) (by kernel_rfl) (by kernel_rfl) (fun _ _ _ _ h => h) (by rfl) rfl ?_
        apply Exists.intro
        refine ⟨fun w' hw' => ?_, ?_⟩
        · subst hw'
          go_simp
          first | done | rfl
        try simp only [Act.put, List.setIfInBounds_toArray, List.set_cons_zero, List.set_cons_succ]
        refine UntH.take (i := 18) (some 246) rfl rfl (by kernel_rfl) (by kernel_rfl) (by kernel_rfl) (by kernel_rfl) (fun _ _ _ _ h => h) (by rfl) rfl ?_
        apply Exists.intro
        refine ⟨fun w' hw' => ?_, ?_⟩
        · subst hw'
          go_simp
          first | done | rfl
        try simp only [Act.put, List.setIfInBounds_toArray, List.set_cons_zero, List.set_cons_succ]
        refine UntH.take (i := 19) (some 247) rfl rfl (by kernel_rfl) (by kernel_rfl) (by kernel_rfl) (by kernel_rfl) (fun _ _ _ _ h => h) (by rfl) rfl ?_
        apply Exists.intro
        refine ⟨fun w' hw' => ?_, ?_⟩
        · subst hw'
          go_simp
          first | done | rfl
        try simp only [Act.put, List.setIfInBounds_toArray, List.set_cons_zero, List.set_cons_succ]
        refine UntH.take (i := 20) (some 248) rfl rfl (by kernel_rfl) (by kernel_rfl) (by kernel_rfl) (by kernel_rfl) (fun _ _ _ _ h => h) (by rfl) rfl ?_
        apply Exists.intro
        refine ⟨fun w' hw' => ?_, ?_⟩
        · subst hw'
          go_simp
          first | done | rfl
        try simp only [Act.put, List.setIfInBounds_toArray, List.set_cons_zero, List.set_cons_succ]
        refine UntH.take (i := 21) (some 249) rfl rfl (by kernel_rfl) (by kernel_rfl) (by kernel_rfl) (by kernel_rfl) (fun _ _ _ _ h => h) (by rfl) rfl ?_
        apply Exists.intro
        refine ⟨fun w' hw' => ?_, ?_⟩
        · subst hw'
          go_simp
          first | done | rfl
        try simp only [Act.put, List.setIfInBounds_toArray, List.set_cons_zero, List.set_cons_succ]
        refine UntH.take (i := 22) (some 250) rfl rfl (by kernel_rfl) (by kernel_rfl) (by kernel_rfl) (by kernel_rfl) (fun _ _ _ _ h => h) (by rfl) rfl ?_
        apply Exists.intro
        refine ⟨fun w' hw' => ?_, ?_⟩
        · subst hw'
          go_simp
          first | done | rfl
        try simp only [Act.put, List.setIfInBounds_toArray, List.set_cons_zero, List.set_cons_succ]
        refine UntH.take (i := 23) (some 251) rfl rfl (by kernel_rfl) (by kernel_rfl) (by kernel_rfl) (by kernel_rfl) (fun _ _ _ _ h => h) (by rfl) rfl ?_
        apply Exists.intro
        refine ⟨fun w' hw' => ?_, ?_⟩
        · subst hw'
          go_simp
          first | done | rfl
        try simp only [Act.put, List.setIfInBounds_toArray, List.set_cons_zero, List.set_cons_succ]
        refine UntH.take (i := 24) (some 252) rfl rfl (by kernel_rfl) (by kernel_rfl) (by kernel_rfl) (by kernel_rfl) (fun _ _ _ _ h => h) (by rfl) rfl ?_
        apply Exists.intro
        refine ⟨fun w' hw' => ?_, ?_⟩
        · subst hw'
          go_simp
          first | done | rfl
        try simp only [Act.put, List.setIfInBounds_toArray, List.set_cons_zero, List.set_cons_succ]
        refine UntH.take (i := 25) (some 253) rfl rfl (by kernel_rfl) (by kernel_rfl) (by kernel_rfl) (by kernel_rfl) (fun _ _ _ _ h => h) (by rfl) rfl ?_
        apply Exists.intro
        refine ⟨fun w' hw' => ?_, ?_⟩
        · subst hw'
          go_simp
          first | done | rfl
        try simp only [Act.put, List.setIfInBounds_toArray, List.set_cons_zero, List.set_cons_succ]
        refine UntH.take (i := 26) (some 254) rfl rfl (by kernel_rfl) (by kernel_rfl) (by kernel_rfl) (by kernel_rfl) (fun _ _ _ _ h => h) (by rfl) rfl ?_
        apply Exists.intro
        refine ⟨fun w' hw' => ?_, ?_⟩
        · subst hw'
          go_simp
          first | done | rfl
        try simp only [Act.put, List.setIfInBounds_toArray, List.set_cons_zero, List.set_cons_succ]
        refine UntH.take (i := 27) (some 255) rfl rfl (by kernel_rfl) (by kernel_rfl) (by kernel_rfl) (by kernel_rfl) (fun _ _ _ _ h => h) (by rfl) rfl ?_
        apply Exists.intro
        refine ⟨fun w' hw' => ?_, ?_⟩
        · subst hw'
          go_simp
          first | done | rfl
        try simp only [Act.put, List.setIfInBounds_toArray, List.set_cons_zero, List.set_cons_succ]
        refine UntH.take (i := 28) (some 256) rfl rfl (by kernel_rfl) (by kernel_rfl) (by kernel_rfl) (by kernel_rfl) (fun _ _ _ _ h => h) (by rfl) rfl ?_
        apply Exists.intro
        refine ⟨fun w' hw' => ?_, ?_⟩
        · subst hw'
          go_simp
          first | done | rfl
        try simp only [Act.put, List.setIfInBounds_toArray, List.set_cons_zero, List.set_cons_succ]
        refine UntH.last (by kernel_rfl) rfl (by kernel_rfl) (by kernel_rfl) (fun K hK => ?_)
        go_simp
        refine hK _ _ ?_
        clear hK K u7 uo
        go_wp2
        go_roundw
        case rel => exact ⟨k + 1, by omega, by go_num, y8⟩
        case measure => simp [RowKit.intOf]; omega
    · have hlt' : ¬ (k : Int) < (IN.length : Int) + 2 := by omega
      have FI := hide (FIN.out wr Y.out)
      clear FIN
      go_wp2
      refine bodyPost_ret (by simp [results, Try.results12, go_sem]; try rfl) rfl ?_
      exact FI.out
end
end Go.Proofs.Ytaafeflbanoncaa
