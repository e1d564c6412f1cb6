/-
  step by its contract: an operation, and what it must say. No condition.
-/
import Derived.Test.YtaafeflbanoncaaTbu
import Derived.Test.YtaafeflbanoncaaKwn
namespace Go.Proofs.Ytaafeflbanoncaa
open Go.RowKit Go.Lib Go.Maps

set_option maxRecDepth 100000 in
theorem pick_big (c : Int) (n : Nat) (hc : Fit c) (hn : 0 < n) (hn2 : n ≤ 4611686018427387904) (w : World) : Calls Try.prog 15 #[.int .i64 c, .int .i64 n] w fun e w' => e = .returned (.int .i64 (pkZ c n : Nat)) ∧ w' = w := by
  unfold Fit at hc
  have hn0 : ¬ (n : Int) = 0 := by omega
  by_cases h : c < 0
  · have e : ((pkZ c n : Nat) : Int) = (-(c + 1)).tmod n := by
      unfold pkZ
      rw [if_pos h, Int.natCast_emod, Int.toNat_of_nonneg (by omega), Int.tmod_eq_emod_of_nonneg (by omega)]
    rw [e]
    clear e
    have w1 : IntKind.i64.wrap (c + 1) = c + 1 := by simp [IntKind.wrap, IntKind.bits, IntKind.signed]; omega
    have w2 : IntKind.i64.wrap (-(c + 1)) = -(c + 1) := by simp [IntKind.wrap, IntKind.bits, IntKind.signed]; omega
    go_enter Try.func15, Try.ntmps15
    rw [Int.neg_tmod]
    go_wp2
    go_ret
    exact ⟨rfl, rfl⟩
  · have e : ((pkZ c n : Nat) : Int) = c % n := by
      unfold pkZ
      rw [if_neg h, Int.natCast_emod, Int.toNat_of_nonneg (by omega)]
    rw [e]
    clear e
    go_enter Try.func15, Try.ntmps15
    go_wp2
    go_ret
    exact ⟨rfl, rfl⟩
theorem OpBx.all {w : World} {b : Nat} {z : OpZ} (h : OpBx w b z) : w.cell? ⟨b, 0, none⟩ = some (.bool z.near) ∧ w.cell? ⟨b, 1, none⟩ = some (.int .i64 z.what) ∧ w.cell? ⟨b, 2, none⟩ = some (.int .i64 z.f) ∧ w.cell? ⟨b, 3, none⟩ = some (.int .i64 z.g) ∧ w.cell? ⟨b, 4, none⟩ = some (.int .i64 z.h) ∧ w.cell? ⟨b, 5, none⟩ = some (.int .i64 z.l) ∧ w.cell? ⟨b, 6, none⟩ = some (.int .i64 z.c) ∧ w.cell? ⟨b, 7, none⟩ = some (.slice z.ia z.il z.ic) ∧ w.cell? ⟨b, 8, none⟩ = some (.slice z.ca z.cl z.cc) := by
  refine ⟨?_, ?_, ?_, ?_, ?_, ?_, ?_, ?_, ?_⟩ <;> (rw [cell_of_row w b _ _ _ _ h]; rfl)
theorem OpBx.kept {w w' : World} {b : Nat} {z : OpZ} {K : Nat → Prop} (h : OpBx w b z) (k : Kept K w w') (hK : ¬ K b) : OpBx w' b z := (k.block b (lt_of_block h) hK).trans h
section
variable {w w' : World} {B tb a : Nat} {S : List Int} {M : Int} {N : List Nd} {P : Nat → Prop} {F : List Int} {R : List (List Bool)} {sb sc : Nat} {fv sv : Value} {V : List Value}
/-- The table behind an operation. -/
structure OpT (w w' : World) (B tb a : Nat) (S : List Int) (M : Int) (P : Nat → Prop) (N' : List Nd) (P' : Nat → Prop) (F : List Int) (R : List (List Bool)) (sb sc : Nat) (fv sv : Value) (V : List Value) (φ : Phi) (r er : Int) : Prop where
  ti : TI w' B tb a S M N' P' F R sb sc fv sv V
  bl : Below B w w'
  kp : Kept P w w'
  or : (er = 0 ∧ hasR N' r ∧ rowR S N' r = rowP S φ) ∨ er = 2
theorem OpL.ti {φ : Phi} {e : Ending} (h : TI w B tb a S M N P F R sb sc fv sv V) (hB : B ≤ w.heap.size) (o : OpL a S M N P φ w e w') : ∃ r er N' P', e = .returned (.tuple #[.int .i64 r, .int .i64 er]) ∧ OpT w w' B tb a S M P N' P' F R sb sc fv sv V φ r er := by
  obtain ⟨r, er, N', P', rfl, h1, h2, h3, h4, h5⟩ := o
  refine ⟨r, er, N', P', rfl, ?_⟩
  rcases h5 with ⟨e0, ⟨T, hT⟩, hr, _⟩ | ⟨e0, _, hN, _⟩
  · subst hT
    exact ⟨h.oped hB h2 h1 h3, h2.below hB h.pb, h2, .inl ⟨e0, hr.1, rowR_rep h.ca.ok.sz hr⟩⟩
  · subst hN
    exact ⟨by have := h.oped (T := []) hB h2 (by rw [List.append_nil]; exact h1) h3; rwa [List.append_nil] at this, h2.below hB h.pb, h2, .inr e0⟩
def StL (B tb a : Nat) (S : List Int) (M : Int) (F : List Int) (R : List (List Bool)) (sb sc : Nat) (fv sv : Value) (V : List Value) (w : World) (e : Ending) (w' : World) : Prop :=
  ∃ r er N' P' g c, e = .returned (.tuple #[.int .i64 r, .slice (some ⟨g, 0, none⟩) (prd S) c, .int .i64 er]) ∧ TI w' B tb a S M N' P' F R sb sc fv sv V ∧ Below B w w' ∧ ((er = 0 ∧ hasR N' r ∧ BBk w' g (rowR S N' r) ∧ ¬ P' g) ∨ er = 2)
/-- .. and its row. -/
theorem OpT.fin {φ : Phi} {r er : Int} {N' : List Nd} {P' : Nat → Prop} {w0 w1 w2 w3 : World} {L : List Bool} {e : Ending} (o : OpT w1 w2 B tb a S M P N' P' F R sb sc fv sv V φ r er) (hb : Below B w0 w1) (hB : B ≤ w2.heap.size) (q : PuL S L w2 e w3) (hL : er = 0 → L = rowP S φ) :
    ∃ g c, e = .returned (.slice (some ⟨g, 0, none⟩) (prd S) c) ∧ StL B tb a S M F R sb sc fv sv V w0 (.returned (.tuple #[.int .i64 r, .slice (some ⟨g, 0, none⟩) (prd S) c, .int .i64 er])) w3 := by
  obtain ⟨g, c, rfl, hg, hbb, hx⟩ := q
  refine ⟨g, c, rfl, r, er, N', P', g, c, rfl, o.ti.below hx, hb.trans (o.bl.trans (hx.mono hB)), ?_⟩
  rcases o.or with ⟨e0, h1, h2⟩ | e0
  · refine .inl ⟨e0, h1, by rw [h2, ← hL e0]; exact hbb, fun hp => ?_⟩
    have := o.ti.ca.plt hp
    omega
  · exact .inr e0
theorem map_row {G : Nat → Bool} {φ : Phi} (h : ∀ n, n < prd S → G n = φ (ptf (pnL S n))) : (List.range (prd S)).map G = rowP S φ := by
  unfold rowP
  apply List.map_congr_left
  intro n hn
  exact h n (List.mem_range.1 hn)
theorem TI.at (h : TI w B tb a S M N P F R sb sc fv sv V) {i n : Nat} (hi : i < R.length) (hn : n < prd S) : (R.getD i []).getD n false = sayR N (ptf (pnL S n)) (F.getD i 0) := by
  rw [(h.says i hi).2]
  exact rowP_get hn
/-- A ref of the table, read. -/
theorem TI.refAt (h : TI w B tb a S M N P F R sb sc fv sv V) {i : Nat} (hi : i < R.length) : ∃ fb fc, fv = .slice (some ⟨fb, 0, none⟩) R.length fc ∧ fb < w.heap.size ∧ ∀ j, j < R.length → w.cell? ⟨fb, j, none⟩ = some (.int .i64 (F.getD j 0)) := by
  obtain ⟨fa, fc, hfv, hfp⟩ := own_shape h.tb.fo
  have fo := h.tb.fo
  rw [h.fl] at hfv hfp fo
  obtain ⟨fb, rfl⟩ := hfp (by omega)
  have hl := (World.ownsRow.lt fo fb (by rw [hfv]; rfl)).2
  rw [hfv] at fo
  refine ⟨fb, fc, hfv, hl, fun j hj => ?_⟩
  have h1 := World.ownsRow.cellAt fo j (by omega)
  rw [zC_get F (by rw [h.fl]; exact hj)] at h1
  exact h1
set_option maxRecDepth 100000 in
set_option maxHeartbeats 8000000 in
theorem step_ok {z : OpZ} {IN : List Bool} (h : TI w B tb a S M N P F R sb sc fv sv V) (hB : B ≤ w.heap.size) (hpr : prd S ≤ 100000) (hz : OpFit z) (hR0 : 0 < R.length) (hRl : R.length ≤ 5000000000000) (hil : z.il = IN.length) (hin : BAt w z.ia IN) (hinl : IN.length ≤ 140737488351232) :
    Calls Try.prog 17 #[.pointer (some ⟨tb, 0, none⟩), .pointer (some ⟨a, 0, none⟩), .agg (opA z)] w fun e w' => StL B tb a S M F R sb sc fv sv V w e w' := by
  have HH := hide h
  have HFT := hide hz
  have hsz := h.ca.ok.sz
  have HSZ := hide hsz
  have hs12 := hsz.le
  have hs1 := hsz.ge
  have y1 : Below w.heap.size w (w.alloc (.cells (opA z) 38)) := al (Below.refl _ _) _
  have nb : OpBx (w.alloc (.cells (opA z) 38)) w.heap.size z := heap_alloc_new w _
  have Y1 := hide y1
  have NB := hide nb
  have HIN := hide hin
  have HIL := hide hil
  unfold opA at Y1 NB
  clear h hz hsz y1 nb hin hil
  show Calls Try.prog 17 #[.pointer (some ⟨tb, 0, none⟩), .pointer (some ⟨a, 0, none⟩), .agg #[.bool z.near, .int .i64 z.what, .int .i64 z.f, .int .i64 z.g, .int .i64 z.h, .int .i64 z.l, .int .i64 z.c, .slice z.ia z.il z.ic, .slice z.ca z.cl z.cc]] w _
  go_enter Try.func17, Try.ntmps17
  go_upto_region 1 with fail
  generalize w.alloc (.cells #[.bool z.near, .int .i64 z.what, .int .i64 z.f, .int .i64 z.g, .int .i64 z.h, .int .i64 z.l, .int .i64 z.c, .slice z.ia z.il z.ic, .slice z.ca z.cl z.cc] 38) = w1 at *
  have X1 := hide Y1.out
  clear Y1
  generalize hob : w.heap.size = ob at *
  have HOB := hide hob
  clear hob
  have XW1 : Hid (Below w.heap.size w w1) := by unfold Hid; rw [HOB.out]; exact X1.out
  clear X1
  have X1 : Hid (Below w1.heap.size w1 w1) := Below.refl _ _
  have I1 := hide (HH.out.below XW1.out)
  have hBw : B ≤ w.heap.size := by rw [HOB.out]; exact hB
  have hB1 : B ≤ w1.heap.size := Nat.le_trans hBw XW1.out.size
  obtain ⟨fb, fc, hfv, hfb, hfr⟩ := I1.out.refAt hR0
  subst hfv
  have HFR := hide hfr
  have PF := hide (fun W => pick_big z.f R.length HFT.out.f hR0 (by omega) W)
  have PG := hide (fun W => pick_big z.g R.length HFT.out.g hR0 (by omega) W)
  have PL := hide (fun W => pick_any z.l S.length HFT.out.l (by omega) (by omega) W)
  have hi := pkZ_lt z.f hR0
  have hk := pkZ_lt z.g hR0
  have hlv := lvZ_lt HSZ.out z
  have e1 : pkZ z.l S.length = lvZ S z := rfl
  rw [e1] at PL
  clear e1 hfr
  generalize pkZ z.f R.length = i at *
  generalize pkZ z.g R.length = k at *
  obtain ⟨lv, hlvz⟩ : ∃ lv, lvZ S z = lv := ⟨_, rfl⟩
  rw [hlvz] at PL hlv
  have HLV := hide hlvz
  clear hlvz
  have hi' : (i : Int) < (R.length : Int) := by omega
  have hk' : (k : Int) < (R.length : Int) := by omega
  have hlv' : (lv : Int) < (S.length : Int) := by omega
  have NPO : Hid (¬ P ob) := fun hp => by have h1 := HH.out.ca.plt hp; have h2 := HOB.out; omega
  go_upto_region 1 with fail
  have X2 : Hid (Below w1.heap.size w1 w1.drew) := X1.out.drew
  refine wp_unt (S := fun V => V = w1.drew) 8 (by kernel_rfl) ?_
  generalize w1.drew = w2 at *
  have I2 := hide (I1.out.below X2.out)
  obtain ⟨t0, t1, t2, t3⟩ := I2.out.tb.blk.cells
  obtain ⟨o0, o1, o2, o3, o4, o5, o6, o7, o8⟩ := (NB.out.below X2.out).all
  refine UntH.take (i := 0) (some 29) rfl rfl (by kernel_rfl) (by kernel_rfl) (by kernel_rfl) (by kernel_rfl) (fun _ _ _ _ h => h) (by rfl) rfl ?_
  apply Exists.intro
  refine ⟨fun w' hw' => ?_, ?_⟩
  · subst hw'
    go_simp
    first | done | rfl
  try simp only [Act.put, List.setIfInBounds_toArray, List.set_cons_zero, List.set_cons_succ]
  refine UntH.take (i := 1) (some 30) rfl rfl (by kernel_rfl) (by kernel_rfl) (by kernel_rfl) (by kernel_rfl) (fun _ _ _ _ h => h) (by rfl) rfl ?_
  apply Exists.intro
  refine ⟨fun w' hw' => ?_, ?_⟩
  · subst hw'
    go_simp
    first | done | rfl
  try simp only [Act.put, List.setIfInBounds_toArray, List.set_cons_zero, List.set_cons_succ]
  refine UntH.take (i := 2) (some 31) rfl rfl (by kernel_rfl) (by kernel_rfl) (by kernel_rfl) (by kernel_rfl) (fun _ _ _ _ h => h) (by rfl) rfl ?_
  apply Exists.intro
  refine ⟨fun w' hw' => ?_, ?_⟩
  · subst hw'
    go_simp
    first | done | rfl
  try simp only [Act.put, List.setIfInBounds_toArray, List.set_cons_zero, List.set_cons_succ]
  refine UntH.take (i := 3) (some 32) rfl rfl (by kernel_rfl) (by kernel_rfl) (by kernel_rfl) (by kernel_rfl) (fun _ _ _ _ h => h) (by rfl) rfl ?_
  apply Exists.intro
  refine ⟨fun w' hw' => ?_, ?_⟩
  · subst hw'
    go_simp
    first | done | rfl
  try simp only [Act.put, List.setIfInBounds_toArray, List.set_cons_zero, List.set_cons_succ]
  refine UntH.take (i := 4) (some 33) rfl rfl (by kernel_rfl) (by kernel_rfl) (by kernel_rfl) (by kernel_rfl) (fun _ _ _ _ h => h) (by rfl) rfl ?_
  apply Exists.intro
  refine ⟨fun w' hw' => ?_, ?_⟩
  · subst hw'
    go_simp
    first | done | rfl
  try simp only [Act.put, List.setIfInBounds_toArray, List.set_cons_zero, List.set_cons_succ]
  refine UntH.take (i := 5) (some 34) rfl rfl (by kernel_rfl) (by kernel_rfl) (by kernel_rfl) (by kernel_rfl) (fun _ _ _ _ h => h) (by rfl) rfl ?_
  apply Exists.intro
  refine ⟨fun w' hw' => ?_, ?_⟩
  · subst hw'
    go_simp
    first | done | rfl
  try simp only [Act.put, List.setIfInBounds_toArray, List.set_cons_zero, List.set_cons_succ]
  refine UntH.take (i := 6) (some 35) rfl rfl (by kernel_rfl) (by kernel_rfl) (by kernel_rfl) (by kernel_rfl) (fun _ _ _ _ h => h) (by rfl) rfl ?_
  apply Exists.intro
  refine ⟨fun w' hw' => ?_, ?_⟩
  · subst hw'
    go_simp
    first | done | rfl
  try simp only [Act.put, List.setIfInBounds_toArray, List.set_cons_zero, List.set_cons_succ]
  refine UntH.step (i := 7) (by kernel_rfl) rfl (fun K hK => ?_)
  go_simp
  refine (PF.out w2).mono ?_
  rintro e w9 ⟨rfl, hw8⟩
  have hw9 := hw8.symm
  clear hw8
  subst hw9
  go_simp
  refine hK _ _ rfl ?_
  clear hK K
  refine UntH.last (by kernel_rfl) rfl (by kernel_rfl) (by kernel_rfl) (fun K hK => ?_)
  go_simp
  refine hK _ _ ?_
  clear hK K t0 t1 t2 t3 o0 o1 o2 o3 o4 o5 o6 o7 o8
  go_upto_region 2 with fail
  have X3 : Hid (Below w1.heap.size w1 w2.drew) := X2.out.drew
  refine wp_unt (S := fun V => V = w2.drew) 8 (by kernel_rfl) ?_
  generalize w2.drew = w3 at *
  have I3 := hide (I1.out.below X3.out)
  obtain ⟨t0, t1, t2, t3⟩ := I3.out.tb.blk.cells
  obtain ⟨o0, o1, o2, o3, o4, o5, o6, o7, o8⟩ := (NB.out.below X3.out).all
  refine UntH.take (i := 0) (some 37) rfl rfl (by kernel_rfl) (by kernel_rfl) (by kernel_rfl) (by kernel_rfl) (fun _ _ _ _ h => h) (by rfl) rfl ?_
  apply Exists.intro
  refine ⟨fun w' hw' => ?_, ?_⟩
  · subst hw'
    go_simp
    first | done | rfl
  try simp only [Act.put, List.setIfInBounds_toArray, List.set_cons_zero, List.set_cons_succ]
  refine UntH.take (i := 1) (some 38) rfl rfl (by kernel_rfl) (by kernel_rfl) (by kernel_rfl) (by kernel_rfl) (fun _ _ _ _ h => h) (by rfl) rfl ?_
  apply Exists.intro
  refine ⟨fun w' hw' => ?_, ?_⟩
  · subst hw'
    go_simp
    first | done | rfl
  try simp only [Act.put, List.setIfInBounds_toArray, List.set_cons_zero, List.set_cons_succ]
  refine UntH.take (i := 2) (some 39) rfl rfl (by kernel_rfl) (by kernel_rfl) (by kernel_rfl) (by kernel_rfl) (fun _ _ _ _ h => h) (by rfl) rfl ?_
  apply Exists.intro
  refine ⟨fun w' hw' => ?_, ?_⟩
  · subst hw'
    go_simp
    first | done | rfl
  try simp only [Act.put, List.setIfInBounds_toArray, List.set_cons_zero, List.set_cons_succ]
  refine UntH.take (i := 3) (some 40) rfl rfl (by kernel_rfl) (by kernel_rfl) (by kernel_rfl) (by kernel_rfl) (fun _ _ _ _ h => h) (by rfl) rfl ?_
  apply Exists.intro
  refine ⟨fun w' hw' => ?_, ?_⟩
  · subst hw'
    go_simp
    first | done | rfl
  try simp only [Act.put, List.setIfInBounds_toArray, List.set_cons_zero, List.set_cons_succ]
  refine UntH.take (i := 4) (some 41) rfl rfl (by kernel_rfl) (by kernel_rfl) (by kernel_rfl) (by kernel_rfl) (fun _ _ _ _ h => h) (by rfl) rfl ?_
  apply Exists.intro
  refine ⟨fun w' hw' => ?_, ?_⟩
  · subst hw'
    go_simp
    first | done | rfl
  try simp only [Act.put, List.setIfInBounds_toArray, List.set_cons_zero, List.set_cons_succ]
  refine UntH.take (i := 5) (some 42) rfl rfl (by kernel_rfl) (by kernel_rfl) (by kernel_rfl) (by kernel_rfl) (fun _ _ _ _ h => h) (by rfl) rfl ?_
  apply Exists.intro
  refine ⟨fun w' hw' => ?_, ?_⟩
  · subst hw'
    go_simp
    first | done | rfl
  try simp only [Act.put, List.setIfInBounds_toArray, List.set_cons_zero, List.set_cons_succ]
  refine UntH.take (i := 6) (some 43) rfl rfl (by kernel_rfl) (by kernel_rfl) (by kernel_rfl) (by kernel_rfl) (fun _ _ _ _ h => h) (by rfl) rfl ?_
  apply Exists.intro
  refine ⟨fun w' hw' => ?_, ?_⟩
  · subst hw'
    go_simp
    first | done | rfl
  try simp only [Act.put, List.setIfInBounds_toArray, List.set_cons_zero, List.set_cons_succ]
  refine UntH.step (i := 7) (by kernel_rfl) rfl (fun K hK => ?_)
  go_simp
  refine (PG.out w3).mono ?_
  rintro e w9 ⟨rfl, hw8⟩
  have hw9 := hw8.symm
  clear hw8
  subst hw9
  go_simp
  refine hK _ _ rfl ?_
  clear hK K
  refine UntH.last (by kernel_rfl) rfl (by kernel_rfl) (by kernel_rfl) (fun K hK => ?_)
  go_simp
  refine hK _ _ ?_
  clear hK K t0 t1 t2 t3 o0 o1 o2 o3 o4 o5 o6 o7 o8
  go_upto_region 3 with fail
  have X4 : Hid (Below w1.heap.size w1 w3.drew) := X3.out.drew
  refine wp_unt (S := fun V => V = w3.drew) 8 (by kernel_rfl) ?_
  generalize w3.drew = w4 at *
  have I4 := hide (I1.out.below X4.out)
  obtain ⟨t0, t1, t2, t3⟩ := I4.out.tb.blk.cells
  obtain ⟨o0, o1, o2, o3, o4, o5, o6, o7, o8⟩ := (NB.out.below X4.out).all
  refine UntH.take (i := 0) (some 45) rfl rfl (by kernel_rfl) (by kernel_rfl) (by kernel_rfl) (by kernel_rfl) (fun _ _ _ _ h => h) (by rfl) rfl ?_
  apply Exists.intro
  refine ⟨fun w' hw' => ?_, ?_⟩
  · subst hw'
    go_simp
    first | done | rfl
  try simp only [Act.put, List.setIfInBounds_toArray, List.set_cons_zero, List.set_cons_succ]
  refine UntH.take (i := 1) (some 46) rfl rfl (by kernel_rfl) (by kernel_rfl) (by kernel_rfl) (by kernel_rfl) (fun _ _ _ _ h => h) (by rfl) rfl ?_
  apply Exists.intro
  refine ⟨fun w' hw' => ?_, ?_⟩
  · subst hw'
    go_simp
    first | done | rfl
  try simp only [Act.put, List.setIfInBounds_toArray, List.set_cons_zero, List.set_cons_succ]
  refine UntH.take (i := 2) (some 47) rfl rfl (by kernel_rfl) (by kernel_rfl) (by kernel_rfl) (by kernel_rfl) (fun _ _ _ _ h => h) (by rfl) rfl ?_
  apply Exists.intro
  refine ⟨fun w' hw' => ?_, ?_⟩
  · subst hw'
    go_simp
    first | done | rfl
  try simp only [Act.put, List.setIfInBounds_toArray, List.set_cons_zero, List.set_cons_succ]
  refine UntH.take (i := 3) (some 48) rfl rfl (by kernel_rfl) (by kernel_rfl) (by kernel_rfl) (by kernel_rfl) (fun _ _ _ _ h => h) (by rfl) rfl ?_
  apply Exists.intro
  refine ⟨fun w' hw' => ?_, ?_⟩
  · subst hw'
    go_simp
    first | done | rfl
  try simp only [Act.put, List.setIfInBounds_toArray, List.set_cons_zero, List.set_cons_succ]
  refine UntH.take (i := 4) (some 49) rfl rfl (by kernel_rfl) (by kernel_rfl) (by kernel_rfl) (by kernel_rfl) (fun _ _ _ _ h => h) (by rfl) rfl ?_
  apply Exists.intro
  refine ⟨fun w' hw' => ?_, ?_⟩
  · subst hw'
    go_simp
    first | done | rfl
  try simp only [Act.put, List.setIfInBounds_toArray, List.set_cons_zero, List.set_cons_succ]
  refine UntH.take (i := 5) (some 50) rfl rfl (by kernel_rfl) (by kernel_rfl) (by kernel_rfl) (by kernel_rfl) (fun _ _ _ _ h => h) (by rfl) rfl ?_
  apply Exists.intro
  refine ⟨fun w' hw' => ?_, ?_⟩
  · subst hw'
    go_simp
    first | done | rfl
  try simp only [Act.put, List.setIfInBounds_toArray, List.set_cons_zero, List.set_cons_succ]
  refine UntH.take (i := 6) (some 51) rfl rfl (by kernel_rfl) (by kernel_rfl) (by kernel_rfl) (by kernel_rfl) (fun _ _ _ _ h => h) (by rfl) rfl ?_
  apply Exists.intro
  refine ⟨fun w' hw' => ?_, ?_⟩
  · subst hw'
    go_simp
    first | done | rfl
  try simp only [Act.put, List.setIfInBounds_toArray, List.set_cons_zero, List.set_cons_succ]
  refine UntH.step (i := 7) (by kernel_rfl) rfl (fun K hK => ?_)
  go_simp
  refine (PL.out w4).mono ?_
  rintro e w9 ⟨rfl, hw8⟩
  have hw9 := hw8.symm
  clear hw8
  subst hw9
  go_simp
  refine hK _ _ rfl ?_
  clear hK K
  refine UntH.last (by kernel_rfl) rfl (by kernel_rfl) (by kernel_rfl) (fun K hK => ?_)
  go_simp
  refine hK _ _ ?_
  clear hK K t0 t1 t2 t3 o0 o1 o2 o3 o4 o5 o6 o7 o8
  clear PF PG PL I2 I3
  have XB4 : Hid (Below B w w4) := by
    have h1 := XW1.out
    exact (h1.mono hBw).trans (X4.out.mono hB1)
  have hB4 : B ≤ w4.heap.size := Nat.le_trans hB1 X4.out.size
  obtain ⟨A, hA⟩ : ∃ A, R.getD i [] = A := ⟨_, rfl⟩
  obtain ⟨C, hC⟩ : ∃ C, R.getD k [] = C := ⟨_, rfl⟩
  have HAA := hide hA
  have HCC := hide hC
  have AT : Hid (∀ n, n < prd S → A.getD n false = sayR N (ptf (pnL S n)) (F.getD i 0) ∧ C.getD n false = sayR N (ptf (pnL S n)) (F.getD k 0)) := fun n hn => by
    rw [← hA, ← hC]
    exact ⟨I4.out.at hi hn, I4.out.at hk hn⟩
  have HFI : Hid (hasR N (F.getD i 0) ∧ hasR N (F.getD k 0)) := ⟨(I4.out.says i hi).1, (I4.out.says k hk).1⟩
  obtain ⟨t0, t1, t2, t3⟩ := I4.out.tb.blk.cells
  have NB4 := hide (NB.out.below X4.out)
  obtain ⟨o0, o1, o2, o3, o4, o5, o6, o7, o8⟩ := NB4.out.all
  have FC4 : Hid (w4.cell? ⟨fb, i, none⟩ = some (.int .i64 (F.getD i 0)) ∧ w4.cell? ⟨fb, k, none⟩ = some (.int .i64 (F.getD k 0))) := ⟨(X4.out.cell (p := ⟨fb, i, none⟩) hfb).trans (HFR.out i hi), (X4.out.cell (p := ⟨fb, k, none⟩) hfb).trans (HFR.out k hk)⟩
  obtain ⟨fi, hfi⟩ : ∃ fi, F.getD i 0 = fi := ⟨_, rfl⟩
  obtain ⟨fk, hfk⟩ : ∃ fk, F.getD k 0 = fk := ⟨_, rfl⟩
  rw [hfi, hfk] at HFI FC4
  have AT2 : Hid (∀ n, n < prd S → A.getD n false = sayR N (ptf (pnL S n)) fi ∧ C.getD n false = sayR N (ptf (pnL S n)) fk) := fun n hn => by
    rw [← hfi, ← hfk]
    exact AT.out n hn
  obtain ⟨c1, c2⟩ := FC4.out
  have PFB : Hid (¬ P fb) := (I4.out.tb.pf fb rfl).1
  clear hA hC AT hfi hfk
  by_cases kw2 : z.what = 2
  · have NT := hide ((not_ok I4.out.ca (f := fi) HFI.out.1).mono (fun e w' h => OpL.ti I4.out hB4 h))
    have HROW : Hid (∀ er : Int, er = 0 → (List.range (prd S)).map (putB S z A C) = rowP S (fun p => !sayR N p fi)) := fun _ _ => map_row (fun n hn => by
      unfold putB
      rw [if_pos kw2]
      rw [(AT2.out n hn).1])
    have kw2' : (z.what == 2) = true := by rw [kw2]; rfl
    clear kw2
    go_upto_region 7 with (go_at_call 25; refine NT.out.mono ?_; rintro e w6 ⟨r, er, N', P', rfl, ot⟩; have OT := hide ot; clear ot)
    have NB6 : Hid (OpBx w6 ob z) := NB4.out.kept OT.out.kp NPO.out
    clear NT t0 t1 t2 t3 o0 o1 o2 o3 o4 o5 o6 o7 o8 c1 c2
    have hB6 : B ≤ w6.heap.size := Nat.le_trans hB4 OT.out.bl.size
    have PU := hide (put_row (z := z) (i := i) (k := k) HAA.out HCC.out OT.out.ti hpr HFT.out hi hk)
    unfold opA at PU
    obtain ⟨o0, o1, o2, o3, o4, o5, o6, o7, o8⟩ := NB6.out.all
    go_wp2_with (go_at_call 47; refine PU.out.mono ?_; intro e w7 q; obtain ⟨g7, c7, he7, FIN0⟩ := OpT.fin OT.out XB4.out hB6 q (HROW.out _); subst he7; have FIN := hide FIN0; clear FIN0 q)
    go_ret3
    exact FIN.out
  have kw2' : (z.what == 2) = false := beq_eq_false_iff_ne.2 kw2
  by_cases kw3 : z.what = 3
  · have NT := hide (fun W (x : Below w4.heap.size w4 W) => ((and_ok (I4.out.below x).ca (f := fi) (g := fk) HFI.out.1 HFI.out.2).mono (fun e w' h => OpL.ti (I4.out.below x) (Nat.le_trans hB4 x.size) h)))
    have HROW : Hid (∀ er : Int, er = 0 → (List.range (prd S)).map (putB S z A C) = rowP S (fun p => (fun a b => a && b) (sayR N p fi) (sayR N p fk))) := fun _ _ => map_row (fun n hn => by
      unfold putB
      rw [if_neg kw2, if_pos kw3]
      rw [(AT2.out n hn).1, (AT2.out n hn).2])
    have kw3' : (z.what == 3) = true := by rw [kw3]; rfl
    clear kw3
    go_upto_region 9 with fail
    have XD : Hid (Below w4.heap.size w4 w4.drew) := (Below.refl _ _).drew
    have hS : w4.drew.cell? ⟨tb, 2, none⟩ = some (.slice (some ⟨fb, 0, none⟩) R.length fc) ∧ w4.drew.cell? ⟨fb, i, none⟩ = some (.int .i64 fi) ∧ w4.drew.cell? ⟨fb, k, none⟩ = some (.int .i64 fk) := ⟨t2, c1, c2⟩
    have NB5 : Hid (OpBx w4.drew ob z) := NB4.out
    refine wp_unt (S := fun V => V.cell? ⟨tb, 2, none⟩ = some (.slice (some ⟨fb, 0, none⟩) R.length fc) ∧ V.cell? ⟨fb, i, none⟩ = some (.int .i64 fi) ∧ V.cell? ⟨fb, k, none⟩ = some (.int .i64 fk)) 20 (by kernel_rfl) ?_
    generalize w4.drew = w5 at *
    clear t0 t1 t2 t3 o0 o1 o2 o3 o4 o5 o6 o7 o8 c1 c2
    refine UntH.take (i := 0) (some 79) rfl rfl (by kernel_rfl) (by kernel_rfl) (by kernel_rfl) (by kernel_rfl) (fun _ _ _ _ h => h) (by rfl) hS ?_
    apply Exists.intro
    refine ⟨fun w' hw' => ?_, ?_⟩
    · (obtain ⟨q0, q1, q2⟩ := hw')
      go_simp
      first | done | rfl
    try simp only [Act.put, List.setIfInBounds_toArray, List.set_cons_zero, List.set_cons_succ]
    refine UntH.take (i := 1) (some 80) rfl rfl (by kernel_rfl) (by kernel_rfl) (by kernel_rfl) (by kernel_rfl) (fun _ _ _ _ h => h) (by rfl) hS ?_
    apply Exists.intro
    refine ⟨fun w' hw' => ?_, ?_⟩
    · (obtain ⟨q0, q1, q2⟩ := hw')
      go_simp
      first | done | rfl
    try simp only [Act.put, List.setIfInBounds_toArray, List.set_cons_zero, List.set_cons_succ]
    refine UntH.take (i := 2) (some 81) rfl rfl (by kernel_rfl) (by kernel_rfl) (by kernel_rfl) (by kernel_rfl) (fun _ _ _ _ h => h) (by rfl) hS ?_
    apply Exists.intro
    refine ⟨fun w' hw' => ?_, ?_⟩
    · (obtain ⟨q0, q1, q2⟩ := hw')
      go_simp
      first | done | rfl
    try simp only [Act.put, List.setIfInBounds_toArray, List.set_cons_zero, List.set_cons_succ]
    refine UntH.take (i := 3) (some 82) rfl rfl (by kernel_rfl) (by kernel_rfl) (by kernel_rfl) (by kernel_rfl) (fun _ _ _ _ h => h) (by rfl) hS ?_
    apply Exists.intro
    refine ⟨fun w' hw' => ?_, ?_⟩
    · (obtain ⟨q0, q1, q2⟩ := hw')
      go_simp
      first | done | rfl
    try simp only [Act.put, List.setIfInBounds_toArray, List.set_cons_zero, List.set_cons_succ]
    refine UntH.take (i := 4) (some 83) rfl rfl (by kernel_rfl) (by kernel_rfl) (by kernel_rfl) (by kernel_rfl) (fun _ _ _ _ h => h) (by rfl) hS ?_
    apply Exists.intro
    refine ⟨fun w' hw' => ?_, ?_⟩
    · (obtain ⟨q0, q1, q2⟩ := hw')
      go_simp
      first | done | rfl
    try simp only [Act.put, List.setIfInBounds_toArray, List.set_cons_zero, List.set_cons_succ]
    refine UntH.take (i := 5) (some 84) rfl rfl (by kernel_rfl) (by kernel_rfl) (by kernel_rfl) (by kernel_rfl) (fun _ _ _ _ h => h) (by rfl) hS ?_
    apply Exists.intro
    refine ⟨fun w' hw' => ?_, ?_⟩
    · (obtain ⟨q0, q1, q2⟩ := hw')
      go_simp
      first | done | rfl
    try simp only [Act.put, List.setIfInBounds_toArray, List.set_cons_zero, List.set_cons_succ]
    refine UntH.take (i := 6) (some 85) rfl rfl (by kernel_rfl) (by kernel_rfl) (by kernel_rfl) (by kernel_rfl) (fun _ _ _ _ h => h) (by rfl) hS ?_
    apply Exists.intro
    refine ⟨fun w' hw' => ?_, ?_⟩
    · (obtain ⟨q0, q1, q2⟩ := hw')
      go_simp
      first | done | rfl
    try simp only [Act.put, List.setIfInBounds_toArray, List.set_cons_zero, List.set_cons_succ]
    refine UntH.take (i := 7) (some 86) rfl rfl (by kernel_rfl) (by kernel_rfl) (by kernel_rfl) (by kernel_rfl) (fun _ _ _ _ h => h) (by rfl) hS ?_
    apply Exists.intro
    refine ⟨fun w' hw' => ?_, ?_⟩
    · (obtain ⟨q0, q1, q2⟩ := hw')
      go_simp
      first | done | rfl
    try simp only [Act.put, List.setIfInBounds_toArray, List.set_cons_zero, List.set_cons_succ]
    refine UntH.take (i := 8) (some 87) rfl rfl (by kernel_rfl) (by kernel_rfl) (by kernel_rfl) (by kernel_rfl) (fun _ _ _ _ h => h) (by rfl) hS ?_
    apply Exists.intro
    refine ⟨fun w' hw' => ?_, ?_⟩
    · (obtain ⟨q0, q1, q2⟩ := hw')
      go_simp
      first | done | rfl
    try simp only [Act.put, List.setIfInBounds_toArray, List.set_cons_zero, List.set_cons_succ]
    refine UntH.take (i := 9) (some 88) rfl rfl (by kernel_rfl) (by kernel_rfl) (by kernel_rfl) (by kernel_rfl) (fun _ _ _ _ h => h) (by rfl) hS ?_
    apply Exists.intro
    refine ⟨fun w' hw' => ?_, ?_⟩
    · (obtain ⟨q0, q1, q2⟩ := hw')
      go_simp
      first | done | rfl
    try simp only [Act.put, List.setIfInBounds_toArray, List.set_cons_zero, List.set_cons_succ]
    refine UntH.take (i := 10) (some 89) rfl rfl (by kernel_rfl) (by kernel_rfl) (by kernel_rfl) (by kernel_rfl) (fun _ _ _ _ h => h) (by rfl) hS ?_
    apply Exists.intro
    refine ⟨fun w' hw' => ?_, ?_⟩
    · (obtain ⟨q0, q1, q2⟩ := hw')
      go_simp
      first | done | rfl
    try simp only [Act.put, List.setIfInBounds_toArray, List.set_cons_zero, List.set_cons_succ]
    refine UntH.take (i := 11) (some 90) rfl rfl (by kernel_rfl) (by kernel_rfl) (by kernel_rfl) (by kernel_rfl) (fun _ _ _ _ h => h) (by rfl) hS ?_
    apply Exists.intro
    refine ⟨fun w' hw' => ?_, ?_⟩
    · (obtain ⟨q0, q1, q2⟩ := hw')
      go_simp
      first | done | rfl
    try simp only [Act.put, List.setIfInBounds_toArray, List.set_cons_zero, List.set_cons_succ]
    refine UntH.take (i := 12) (some 91) rfl rfl (by kernel_rfl) (by kernel_rfl) (by kernel_rfl) (by kernel_rfl) (fun _ _ _ _ h => h) (by rfl) hS ?_
    apply Exists.intro
    refine ⟨fun w' hw' => ?_, ?_⟩
    · (obtain ⟨q0, q1, q2⟩ := hw')
      go_simp
      first | done | rfl
    try simp only [Act.put, List.setIfInBounds_toArray, List.set_cons_zero, List.set_cons_succ]
    refine UntH.take (i := 13) (some 92) rfl rfl (by kernel_rfl) (by kernel_rfl) (by kernel_rfl) (by kernel_rfl) (fun _ _ _ _ h => h) (by rfl) hS ?_
    apply Exists.intro
    refine ⟨fun w' hw' => ?_, ?_⟩
    · (obtain ⟨q0, q1, q2⟩ := hw')
      go_simp
      first | done | rfl
    try simp only [Act.put, List.setIfInBounds_toArray, List.set_cons_zero, List.set_cons_succ]
    refine UntH.take (i := 14) (some 93) rfl rfl (by kernel_rfl) (by kernel_rfl) (by kernel_rfl) (by kernel_rfl) (fun _ _ _ _ h => h) (by rfl) hS ?_
    apply Exists.intro
    refine ⟨fun w' hw' => ?_, ?_⟩
    · (obtain ⟨q0, q1, q2⟩ := hw')
      go_simp
      first | done | rfl
    try simp only [Act.put, List.setIfInBounds_toArray, List.set_cons_zero, List.set_cons_succ]
    have NT5 := hide (NT.out w5 XD.out)
    refine UntH.step (i := 15) (by kernel_rfl) rfl (fun K hK => ?_)
    go_simp
    refine NT5.out.mono ?_
    rintro e w6 ⟨r, er, N', P', rfl, ot⟩
    have OT := hide ot
    have NB6 : Hid (OpBx w6 ob z) := NB5.out.kept ot.kp NPO.out
    have hS6 : w6.cell? ⟨tb, 2, none⟩ = some (.slice (some ⟨fb, 0, none⟩) R.length fc) ∧ w6.cell? ⟨fb, i, none⟩ = some (.int .i64 fi) ∧ w6.cell? ⟨fb, k, none⟩ = some (.int .i64 fk) := ⟨ot.ti.tb.blk.cells.2.2.1, (ot.kp.cell (p := ⟨fb, i, none⟩) (Nat.lt_of_lt_of_le hfb (Nat.le_trans X4.out.size XD.out.size)) PFB.out).trans hS.2.1, (ot.kp.cell (p := ⟨fb, k, none⟩) (Nat.lt_of_lt_of_le hfb (Nat.le_trans X4.out.size XD.out.size)) PFB.out).trans hS.2.2⟩
    go_simp
    refine hK _ _ hS6 ?_
    clear hK K ot NT NT5
    refine UntH.take (i := 16) (some 78) rfl rfl (by kernel_rfl) (by kernel_rfl) (by kernel_rfl) (by kernel_rfl) (fun _ _ _ _ h => h) (by rfl) hS6 ?_
    apply Exists.intro
    refine ⟨fun w' hw' => ?_, ?_⟩
    · skip
      go_simp
      first | done | rfl
    try simp only [Act.put, List.setIfInBounds_toArray, List.set_cons_zero, List.set_cons_succ]
    refine UntH.take (i := 17) (some 95) rfl rfl (by kernel_rfl) (by kernel_rfl) (by kernel_rfl) (by kernel_rfl) (fun _ _ _ _ h => h) (by rfl) hS6 ?_
    apply Exists.intro
    refine ⟨fun w' hw' => ?_, ?_⟩
    · skip
      go_simp
      first | done | rfl
    try simp only [Act.put, List.setIfInBounds_toArray, List.set_cons_zero, List.set_cons_succ]
    refine UntH.take (i := 18) (some 96) rfl rfl (by kernel_rfl) (by kernel_rfl) (by kernel_rfl) (by kernel_rfl) (fun _ _ _ _ h => h) (by rfl) hS6 ?_
    apply Exists.intro
    refine ⟨fun w' hw' => ?_, ?_⟩
    · skip
      go_simp
      first | done | rfl
    try simp only [Act.put, List.setIfInBounds_toArray, List.set_cons_zero, List.set_cons_succ]
    refine UntH.take (i := 19) (some 14) rfl rfl (by kernel_rfl) (by kernel_rfl) (by kernel_rfl) (by kernel_rfl) (fun _ _ _ _ h => h) (by rfl) hS6 ?_
    apply Exists.intro
    refine ⟨fun w' hw' => ?_, ?_⟩
    · skip
      go_simp
      first | done | rfl
    try simp only [Act.put, List.setIfInBounds_toArray, List.set_cons_zero, List.set_cons_succ]
    refine UntH.last (by kernel_rfl) rfl (by kernel_rfl) (by kernel_rfl) (fun K hK => ?_)
    go_simp
    refine hK _ _ ?_
    clear hK K hS hS6
    have XB5 := hide (XB4.out.trans (XD.out.mono hB4))
    have hB5 : B ≤ w5.heap.size := Nat.le_trans hB4 XD.out.size
    have hB6 : B ≤ w6.heap.size := Nat.le_trans hB5 OT.out.bl.size
    have PU := hide (put_row (z := z) (i := i) (k := k) HAA.out HCC.out OT.out.ti hpr HFT.out hi hk)
    unfold opA at PU
    obtain ⟨o0, o1, o2, o3, o4, o5, o6, o7, o8⟩ := NB6.out.all
    go_wp2_with (go_at_call 47; refine PU.out.mono ?_; intro e w7 q; obtain ⟨g7, c7, he7, FIN0⟩ := OpT.fin OT.out XB5.out hB6 q (HROW.out _); subst he7; have FIN := hide FIN0; clear FIN0 q)
    go_ret3
    exact FIN.out
  have kw3' : (z.what == 3) = false := beq_eq_false_iff_ne.2 kw3
  by_cases kw4 : z.what = 4
  · have NT := hide (fun W (x : Below w4.heap.size w4 W) => ((or_ok (I4.out.below x).ca (f := fi) (g := fk) HFI.out.1 HFI.out.2).mono (fun e w' h => OpL.ti (I4.out.below x) (Nat.le_trans hB4 x.size) h)))
    have HROW : Hid (∀ er : Int, er = 0 → (List.range (prd S)).map (putB S z A C) = rowP S (fun p => (fun a b => a || b) (sayR N p fi) (sayR N p fk))) := fun _ _ => map_row (fun n hn => by
      unfold putB
      rw [if_neg kw2, if_neg kw3, if_pos kw4]
      rw [(AT2.out n hn).1, (AT2.out n hn).2])
    have kw4' : (z.what == 4) = true := by rw [kw4]; rfl
    clear kw4
    go_upto_region 12 with fail
    have XD : Hid (Below w4.heap.size w4 w4.drew) := (Below.refl _ _).drew
    have hS : w4.drew.cell? ⟨tb, 2, none⟩ = some (.slice (some ⟨fb, 0, none⟩) R.length fc) ∧ w4.drew.cell? ⟨fb, i, none⟩ = some (.int .i64 fi) ∧ w4.drew.cell? ⟨fb, k, none⟩ = some (.int .i64 fk) := ⟨t2, c1, c2⟩
    have NB5 : Hid (OpBx w4.drew ob z) := NB4.out
    refine wp_unt (S := fun V => V.cell? ⟨tb, 2, none⟩ = some (.slice (some ⟨fb, 0, none⟩) R.length fc) ∧ V.cell? ⟨fb, i, none⟩ = some (.int .i64 fi) ∧ V.cell? ⟨fb, k, none⟩ = some (.int .i64 fk)) 20 (by kernel_rfl) ?_
    generalize w4.drew = w5 at *
    clear t0 t1 t2 t3 o0 o1 o2 o3 o4 o5 o6 o7 o8 c1 c2
    refine UntH.take (i := 0) (some 107) rfl rfl (by kernel_rfl) (by kernel_rfl) (by kernel_rfl) (by kernel_rfl) (fun _ _ _ _ h => h) (by rfl) hS ?_
    apply Exists.intro
    refine ⟨fun w' hw' => ?_, ?_⟩
    · (obtain ⟨q0, q1, q2⟩ := hw')
      go_simp
      first | done | rfl
    try simp only [Act.put, List.setIfInBounds_toArray, List.set_cons_zero, List.set_cons_succ]
    refine UntH.take (i := 1) (some 108) rfl rfl (by kernel_rfl) (by kernel_rfl) (by kernel_rfl) (by kernel_rfl) (fun _ _ _ _ h => h) (by rfl) hS ?_
    apply Exists.intro
    refine ⟨fun w' hw' => ?_, ?_⟩
    · (obtain ⟨q0, q1, q2⟩ := hw')
      go_simp
      first | done | rfl
    try simp only [Act.put, List.setIfInBounds_toArray, List.set_cons_zero, List.set_cons_succ]
    refine UntH.take (i := 2) (some 109) rfl rfl (by kernel_rfl) (by kernel_rfl) (by kernel_rfl) (by kernel_rfl) (fun _ _ _ _ h => h) (by rfl) hS ?_
    apply Exists.intro
    refine ⟨fun w' hw' => ?_, ?_⟩
    · (obtain ⟨q0, q1, q2⟩ := hw')
      go_simp
      first | done | rfl
    try simp only [Act.put, List.setIfInBounds_toArray, List.set_cons_zero, List.set_cons_succ]
    refine UntH.take (i := 3) (some 110) rfl rfl (by kernel_rfl) (by kernel_rfl) (by kernel_rfl) (by kernel_rfl) (fun _ _ _ _ h => h) (by rfl) hS ?_
    apply Exists.intro
    refine ⟨fun w' hw' => ?_, ?_⟩
    · (obtain ⟨q0, q1, q2⟩ := hw')
      go_simp
      first | done | rfl
    try simp only [Act.put, List.setIfInBounds_toArray, List.set_cons_zero, List.set_cons_succ]
    refine UntH.take (i := 4) (some 111) rfl rfl (by kernel_rfl) (by kernel_rfl) (by kernel_rfl) (by kernel_rfl) (fun _ _ _ _ h => h) (by rfl) hS ?_
    apply Exists.intro
    refine ⟨fun w' hw' => ?_, ?_⟩
    · (obtain ⟨q0, q1, q2⟩ := hw')
      go_simp
      first | done | rfl
    try simp only [Act.put, List.setIfInBounds_toArray, List.set_cons_zero, List.set_cons_succ]
    refine UntH.take (i := 5) (some 112) rfl rfl (by kernel_rfl) (by kernel_rfl) (by kernel_rfl) (by kernel_rfl) (fun _ _ _ _ h => h) (by rfl) hS ?_
    apply Exists.intro
    refine ⟨fun w' hw' => ?_, ?_⟩
    · (obtain ⟨q0, q1, q2⟩ := hw')
      go_simp
      first | done | rfl
    try simp only [Act.put, List.setIfInBounds_toArray, List.set_cons_zero, List.set_cons_succ]
    refine UntH.take (i := 6) (some 113) rfl rfl (by kernel_rfl) (by kernel_rfl) (by kernel_rfl) (by kernel_rfl) (fun _ _ _ _ h => h) (by rfl) hS ?_
    apply Exists.intro
    refine ⟨fun w' hw' => ?_, ?_⟩
    · (obtain ⟨q0, q1, q2⟩ := hw')
      go_simp
      first | done | rfl
    try simp only [Act.put, List.setIfInBounds_toArray, List.set_cons_zero, List.set_cons_succ]
    refine UntH.take (i := 7) (some 114) rfl rfl (by kernel_rfl) (by kernel_rfl) (by kernel_rfl) (by kernel_rfl) (fun _ _ _ _ h => h) (by rfl) hS ?_
    apply Exists.intro
    refine ⟨fun w' hw' => ?_, ?_⟩
    · (obtain ⟨q0, q1, q2⟩ := hw')
      go_simp
      first | done | rfl
    try simp only [Act.put, List.setIfInBounds_toArray, List.set_cons_zero, List.set_cons_succ]
    refine UntH.take (i := 8) (some 115) rfl rfl (by kernel_rfl) (by kernel_rfl) (by kernel_rfl) (by kernel_rfl) (fun _ _ _ _ h => h) (by rfl) hS ?_
    apply Exists.intro
    refine ⟨fun w' hw' => ?_, ?_⟩
    · (obtain ⟨q0, q1, q2⟩ := hw')
      go_simp
      first | done | rfl
    try simp only [Act.put, List.setIfInBounds_toArray, List.set_cons_zero, List.set_cons_succ]
    refine UntH.take (i := 9) (some 116) rfl rfl (by kernel_rfl) (by kernel_rfl) (by kernel_rfl) (by kernel_rfl) (fun _ _ _ _ h => h) (by rfl) hS ?_
    apply Exists.intro
    refine ⟨fun w' hw' => ?_, ?_⟩
    · (obtain ⟨q0, q1, q2⟩ := hw')
      go_simp
      first | done | rfl
    try simp only [Act.put, List.setIfInBounds_toArray, List.set_cons_zero, List.set_cons_succ]
    refine UntH.take (i := 10) (some 117) rfl rfl (by kernel_rfl) (by kernel_rfl) (by kernel_rfl) (by kernel_rfl) (fun _ _ _ _ h => h) (by rfl) hS ?_
    apply Exists.intro
    refine ⟨fun w' hw' => ?_, ?_⟩
    · (obtain ⟨q0, q1, q2⟩ := hw')
      go_simp
      first | done | rfl
    try simp only [Act.put, List.setIfInBounds_toArray, List.set_cons_zero, List.set_cons_succ]
    refine UntH.take (i := 11) (some 118) rfl rfl (by kernel_rfl) (by kernel_rfl) (by kernel_rfl) (by kernel_rfl) (fun _ _ _ _ h => h) (by rfl) hS ?_
    apply Exists.intro
    refine ⟨fun w' hw' => ?_, ?_⟩
    · (obtain ⟨q0, q1, q2⟩ := hw')
      go_simp
      first | done | rfl
    try simp only [Act.put, List.setIfInBounds_toArray, List.set_cons_zero, List.set_cons_succ]
    refine UntH.take (i := 12) (some 119) rfl rfl (by kernel_rfl) (by kernel_rfl) (by kernel_rfl) (by kernel_rfl) (fun _ _ _ _ h => h) (by rfl) hS ?_
    apply Exists.intro
    refine ⟨fun w' hw' => ?_, ?_⟩
    · (obtain ⟨q0, q1, q2⟩ := hw')
      go_simp
      first | done | rfl
    try simp only [Act.put, List.setIfInBounds_toArray, List.set_cons_zero, List.set_cons_succ]
    refine UntH.take (i := 13) (some 120) rfl rfl (by kernel_rfl) (by kernel_rfl) (by kernel_rfl) (by kernel_rfl) (fun _ _ _ _ h => h) (by rfl) hS ?_
    apply Exists.intro
    refine ⟨fun w' hw' => ?_, ?_⟩
    · (obtain ⟨q0, q1, q2⟩ := hw')
      go_simp
      first | done | rfl
    try simp only [Act.put, List.setIfInBounds_toArray, List.set_cons_zero, List.set_cons_succ]
    refine UntH.take (i := 14) (some 121) rfl rfl (by kernel_rfl) (by kernel_rfl) (by kernel_rfl) (by kernel_rfl) (fun _ _ _ _ h => h) (by rfl) hS ?_
    apply Exists.intro
    refine ⟨fun w' hw' => ?_, ?_⟩
    · (obtain ⟨q0, q1, q2⟩ := hw')
      go_simp
      first | done | rfl
    try simp only [Act.put, List.setIfInBounds_toArray, List.set_cons_zero, List.set_cons_succ]
    have NT5 := hide (NT.out w5 XD.out)
    refine UntH.step (i := 15) (by kernel_rfl) rfl (fun K hK => ?_)
    go_simp
    refine NT5.out.mono ?_
    rintro e w6 ⟨r, er, N', P', rfl, ot⟩
    have OT := hide ot
    have NB6 : Hid (OpBx w6 ob z) := NB5.out.kept ot.kp NPO.out
    have hS6 : w6.cell? ⟨tb, 2, none⟩ = some (.slice (some ⟨fb, 0, none⟩) R.length fc) ∧ w6.cell? ⟨fb, i, none⟩ = some (.int .i64 fi) ∧ w6.cell? ⟨fb, k, none⟩ = some (.int .i64 fk) := ⟨ot.ti.tb.blk.cells.2.2.1, (ot.kp.cell (p := ⟨fb, i, none⟩) (Nat.lt_of_lt_of_le hfb (Nat.le_trans X4.out.size XD.out.size)) PFB.out).trans hS.2.1, (ot.kp.cell (p := ⟨fb, k, none⟩) (Nat.lt_of_lt_of_le hfb (Nat.le_trans X4.out.size XD.out.size)) PFB.out).trans hS.2.2⟩
    go_simp
    refine hK _ _ hS6 ?_
    clear hK K ot NT NT5
    refine UntH.take (i := 16) (some 106) rfl rfl (by kernel_rfl) (by kernel_rfl) (by kernel_rfl) (by kernel_rfl) (fun _ _ _ _ h => h) (by rfl) hS6 ?_
    apply Exists.intro
    refine ⟨fun w' hw' => ?_, ?_⟩
    · skip
      go_simp
      first | done | rfl
    try simp only [Act.put, List.setIfInBounds_toArray, List.set_cons_zero, List.set_cons_succ]
    refine UntH.take (i := 17) (some 123) rfl rfl (by kernel_rfl) (by kernel_rfl) (by kernel_rfl) (by kernel_rfl) (fun _ _ _ _ h => h) (by rfl) hS6 ?_
    apply Exists.intro
    refine ⟨fun w' hw' => ?_, ?_⟩
    · skip
      go_simp
      first | done | rfl
    try simp only [Act.put, List.setIfInBounds_toArray, List.set_cons_zero, List.set_cons_succ]
    refine UntH.take (i := 18) (some 124) rfl rfl (by kernel_rfl) (by kernel_rfl) (by kernel_rfl) (by kernel_rfl) (fun _ _ _ _ h => h) (by rfl) hS6 ?_
    apply Exists.intro
    refine ⟨fun w' hw' => ?_, ?_⟩
    · skip
      go_simp
      first | done | rfl
    try simp only [Act.put, List.setIfInBounds_toArray, List.set_cons_zero, List.set_cons_succ]
    refine UntH.take (i := 19) (some 16) rfl rfl (by kernel_rfl) (by kernel_rfl) (by kernel_rfl) (by kernel_rfl) (fun _ _ _ _ h => h) (by rfl) hS6 ?_
    apply Exists.intro
    refine ⟨fun w' hw' => ?_, ?_⟩
    · skip
      go_simp
      first | done | rfl
    try simp only [Act.put, List.setIfInBounds_toArray, List.set_cons_zero, List.set_cons_succ]
    refine UntH.last (by kernel_rfl) rfl (by kernel_rfl) (by kernel_rfl) (fun K hK => ?_)
    go_simp
    refine hK _ _ ?_
    clear hK K hS hS6
    have XB5 := hide (XB4.out.trans (XD.out.mono hB4))
    have hB5 : B ≤ w5.heap.size := Nat.le_trans hB4 XD.out.size
    have hB6 : B ≤ w6.heap.size := Nat.le_trans hB5 OT.out.bl.size
    have PU := hide (put_row (z := z) (i := i) (k := k) HAA.out HCC.out OT.out.ti hpr HFT.out hi hk)
    unfold opA at PU
    obtain ⟨o0, o1, o2, o3, o4, o5, o6, o7, o8⟩ := NB6.out.all
    go_wp2_with (go_at_call 47; refine PU.out.mono ?_; intro e w7 q; obtain ⟨g7, c7, he7, FIN0⟩ := OpT.fin OT.out XB5.out hB6 q (HROW.out _); subst he7; have FIN := hide FIN0; clear FIN0 q)
    go_ret3
    exact FIN.out
  have kw4' : (z.what == 4) = false := beq_eq_false_iff_ne.2 kw4
  by_cases kw5 : z.what = 5
  · have NT := hide (fun W (x : Below w4.heap.size w4 W) => ((xor_ok (I4.out.below x).ca (f := fi) (g := fk) HFI.out.1 HFI.out.2).mono (fun e w' h => OpL.ti (I4.out.below x) (Nat.le_trans hB4 x.size) h)))
    have HROW : Hid (∀ er : Int, er = 0 → (List.range (prd S)).map (putB S z A C) = rowP S (fun p => (fun a b => a != b) (sayR N p fi) (sayR N p fk))) := fun _ _ => map_row (fun n hn => by
      unfold putB
      rw [if_neg kw2, if_neg kw3, if_neg kw4, if_pos kw5]
      rw [(AT2.out n hn).1, (AT2.out n hn).2])
    have kw5' : (z.what == 5) = true := by rw [kw5]; rfl
    clear kw5
    go_upto_region 15 with fail
    have XD : Hid (Below w4.heap.size w4 w4.drew) := (Below.refl _ _).drew
    have hS : w4.drew.cell? ⟨tb, 2, none⟩ = some (.slice (some ⟨fb, 0, none⟩) R.length fc) ∧ w4.drew.cell? ⟨fb, i, none⟩ = some (.int .i64 fi) ∧ w4.drew.cell? ⟨fb, k, none⟩ = some (.int .i64 fk) := ⟨t2, c1, c2⟩
    have NB5 : Hid (OpBx w4.drew ob z) := NB4.out
    refine wp_unt (S := fun V => V.cell? ⟨tb, 2, none⟩ = some (.slice (some ⟨fb, 0, none⟩) R.length fc) ∧ V.cell? ⟨fb, i, none⟩ = some (.int .i64 fi) ∧ V.cell? ⟨fb, k, none⟩ = some (.int .i64 fk)) 20 (by kernel_rfl) ?_
    generalize w4.drew = w5 at *
    clear t0 t1 t2 t3 o0 o1 o2 o3 o4 o5 o6 o7 o8 c1 c2
    refine UntH.take (i := 0) (some 135) rfl rfl (by kernel_rfl) (by kernel_rfl) (by kernel_rfl) (by kernel_rfl) (fun _ _ _ _ h => h) (by rfl) hS ?_
    apply Exists.intro
    refine ⟨fun w' hw' => ?_, ?_⟩
    · (obtain ⟨q0, q1, q2⟩ := hw')
      go_simp
      first | done | rfl
    try simp only [Act.put, List.setIfInBounds_toArray, List.set_cons_zero, List.set_cons_succ]
    refine UntH.take (i := 1) (some 136) rfl rfl (by kernel_rfl) (by kernel_rfl) (by kernel_rfl) (by kernel_rfl) (fun _ _ _ _ h => h) (by rfl) hS ?_
    apply Exists.intro
    refine ⟨fun w' hw' => ?_, ?_⟩
    · (obtain ⟨q0, q1, q2⟩ := hw')
      go_simp
      first | done | rfl
    try simp only [Act.put, List.setIfInBounds_toArray, List.set_cons_zero, List.set_cons_succ]
    refine UntH.take (i := 2) (some 137) rfl rfl (by kernel_rfl) (by kernel_rfl) (by kernel_rfl) (by kernel_rfl) (fun _ _ _ _ h => h) (by rfl) hS ?_
    apply Exists.intro
    refine ⟨fun w' hw' => ?_, ?_⟩
    · (obtain ⟨q0, q1, q2⟩ := hw')
      go_simp
      first | done | rfl
    try simp only [Act.put, List.setIfInBounds_toArray, List.set_cons_zero, List.set_cons_succ]
    refine UntH.take (i := 3) (some 138) rfl rfl (by kernel_rfl) (by kernel_rfl) (by kernel_rfl) (by kernel_rfl) (fun _ _ _ _ h => h) (by rfl) hS ?_
    apply Exists.intro
    refine ⟨fun w' hw' => ?_, ?_⟩
    · (obtain ⟨q0, q1, q2⟩ := hw')
      go_simp
      first | done | rfl
    try simp only [Act.put, List.setIfInBounds_toArray, List.set_cons_zero, List.set_cons_succ]
    refine UntH.take (i := 4) (some 139) rfl rfl (by kernel_rfl) (by kernel_rfl) (by kernel_rfl) (by kernel_rfl) (fun _ _ _ _ h => h) (by rfl) hS ?_
    apply Exists.intro
    refine ⟨fun w' hw' => ?_, ?_⟩
    · (obtain ⟨q0, q1, q2⟩ := hw')
      go_simp
      first | done | rfl
    try simp only [Act.put, List.setIfInBounds_toArray, List.set_cons_zero, List.set_cons_succ]
    refine UntH.take (i := 5) (some 140) rfl rfl (by kernel_rfl) (by kernel_rfl) (by kernel_rfl) (by kernel_rfl) (fun _ _ _ _ h => h) (by rfl) hS ?_
    apply Exists.intro
    refine ⟨fun w' hw' => ?_, ?_⟩
    · (obtain ⟨q0, q1, q2⟩ := hw')
      go_simp
      first | done | rfl
    try simp only [Act.put, List.setIfInBounds_toArray, List.set_cons_zero, List.set_cons_succ]
    refine UntH.take (i := 6) (some 141) rfl rfl (by kernel_rfl) (by kernel_rfl) (by kernel_rfl) (by kernel_rfl) (fun _ _ _ _ h => h) (by rfl) hS ?_
    apply Exists.intro
    refine ⟨fun w' hw' => ?_, ?_⟩
    · (obtain ⟨q0, q1, q2⟩ := hw')
      go_simp
      first | done | rfl
    try simp only [Act.put, List.setIfInBounds_toArray, List.set_cons_zero, List.set_cons_succ]
    refine UntH.take (i := 7) (some 142) rfl rfl (by kernel_rfl) (by kernel_rfl) (by kernel_rfl) (by kernel_rfl) (fun _ _ _ _ h => h) (by rfl) hS ?_
    apply Exists.intro
    refine ⟨fun w' hw' => ?_, ?_⟩
    · (obtain ⟨q0, q1, q2⟩ := hw')
      go_simp
      first | done | rfl
    try simp only [Act.put, List.setIfInBounds_toArray, List.set_cons_zero, List.set_cons_succ]
    refine UntH.take (i := 8) (some 143) rfl rfl (by kernel_rfl) (by kernel_rfl) (by kernel_rfl) (by kernel_rfl) (fun _ _ _ _ h => h) (by rfl) hS ?_
    apply Exists.intro
    refine ⟨fun w' hw' => ?_, ?_⟩
    · (obtain ⟨q0, q1, q2⟩ := hw')
      go_simp
      first | done | rfl
    try simp only [Act.put, List.setIfInBounds_toArray, List.set_cons_zero, List.set_cons_succ]
    refine UntH.take (i := 9) (some 144) rfl rfl (by kernel_rfl) (by kernel_rfl) (by kernel_rfl) (by kernel_rfl) (fun _ _ _ _ h => h) (by rfl) hS ?_
    apply Exists.intro
    refine ⟨fun w' hw' => ?_, ?_⟩
    · (obtain ⟨q0, q1, q2⟩ := hw')
      go_simp
      first | done | rfl
    try simp only [Act.put, List.setIfInBounds_toArray, List.set_cons_zero, List.set_cons_succ]
    refine UntH.take (i := 10) (some 145) rfl rfl (by kernel_rfl) (by kernel_rfl) (by kernel_rfl) (by kernel_rfl) (fun _ _ _ _ h => h) (by rfl) hS ?_
    apply Exists.intro
    refine ⟨fun w' hw' => ?_, ?_⟩
    · (obtain ⟨q0, q1, q2⟩ := hw')
      go_simp
      first | done | rfl
    try simp only [Act.put, List.setIfInBounds_toArray, List.set_cons_zero, List.set_cons_succ]
    refine UntH.take (i := 11) (some 146) rfl rfl (by kernel_rfl) (by kernel_rfl) (by kernel_rfl) (by kernel_rfl) (fun _ _ _ _ h => h) (by rfl) hS ?_
    apply Exists.intro
    refine ⟨fun w' hw' => ?_, ?_⟩
    · (obtain ⟨q0, q1, q2⟩ := hw')
      go_simp
      first | done | rfl
    try simp only [Act.put, List.setIfInBounds_toArray, List.set_cons_zero, List.set_cons_succ]
    refine UntH.take (i := 12) (some 147) rfl rfl (by kernel_rfl) (by kernel_rfl) (by kernel_rfl) (by kernel_rfl) (fun _ _ _ _ h => h) (by rfl) hS ?_
    apply Exists.intro
    refine ⟨fun w' hw' => ?_, ?_⟩
    · (obtain ⟨q0, q1, q2⟩ := hw')
      go_simp
      first | done | rfl
    try simp only [Act.put, List.setIfInBounds_toArray, List.set_cons_zero, List.set_cons_succ]
    refine UntH.take (i := 13) (some 148) rfl rfl (by kernel_rfl) (by kernel_rfl) (by kernel_rfl) (by kernel_rfl) (fun _ _ _ _ h => h) (by rfl) hS ?_
    apply Exists.intro
    refine ⟨fun w' hw' => ?_, ?_⟩
    · (obtain ⟨q0, q1, q2⟩ := hw')
      go_simp
      first | done | rfl
    try simp only [Act.put, List.setIfInBounds_toArray, List.set_cons_zero, List.set_cons_succ]
    refine UntH.take (i := 14) (some 149) rfl rfl (by kernel_rfl) (by kernel_rfl) (by kernel_rfl) (by kernel_rfl) (fun _ _ _ _ h => h) (by rfl) hS ?_
    apply Exists.intro
    refine ⟨fun w' hw' => ?_, ?_⟩
    · (obtain ⟨q0, q1, q2⟩ := hw')
      go_simp
      first | done | rfl
    try simp only [Act.put, List.setIfInBounds_toArray, List.set_cons_zero, List.set_cons_succ]
    have NT5 := hide (NT.out w5 XD.out)
    refine UntH.step (i := 15) (by kernel_rfl) rfl (fun K hK => ?_)
    go_simp
    refine NT5.out.mono ?_
    rintro e w6 ⟨r, er, N', P', rfl, ot⟩
    have OT := hide ot
    have NB6 : Hid (OpBx w6 ob z) := NB5.out.kept ot.kp NPO.out
    have hS6 : w6.cell? ⟨tb, 2, none⟩ = some (.slice (some ⟨fb, 0, none⟩) R.length fc) ∧ w6.cell? ⟨fb, i, none⟩ = some (.int .i64 fi) ∧ w6.cell? ⟨fb, k, none⟩ = some (.int .i64 fk) := ⟨ot.ti.tb.blk.cells.2.2.1, (ot.kp.cell (p := ⟨fb, i, none⟩) (Nat.lt_of_lt_of_le hfb (Nat.le_trans X4.out.size XD.out.size)) PFB.out).trans hS.2.1, (ot.kp.cell (p := ⟨fb, k, none⟩) (Nat.lt_of_lt_of_le hfb (Nat.le_trans X4.out.size XD.out.size)) PFB.out).trans hS.2.2⟩
    go_simp
    refine hK _ _ hS6 ?_
    clear hK K ot NT NT5
    refine UntH.take (i := 16) (some 134) rfl rfl (by kernel_rfl) (by kernel_rfl) (by kernel_rfl) (by kernel_rfl) (fun _ _ _ _ h => h) (by rfl) hS6 ?_
    apply Exists.intro
    refine ⟨fun w' hw' => ?_, ?_⟩
    · skip
      go_simp
      first | done | rfl
    try simp only [Act.put, List.setIfInBounds_toArray, List.set_cons_zero, List.set_cons_succ]
    refine UntH.take (i := 17) (some 151) rfl rfl (by kernel_rfl) (by kernel_rfl) (by kernel_rfl) (by kernel_rfl) (fun _ _ _ _ h => h) (by rfl) hS6 ?_
    apply Exists.intro
    refine ⟨fun w' hw' => ?_, ?_⟩
    · skip
      go_simp
      first | done | rfl
    try simp only [Act.put, List.setIfInBounds_toArray, List.set_cons_zero, List.set_cons_succ]
    refine UntH.take (i := 18) (some 152) rfl rfl (by kernel_rfl) (by kernel_rfl) (by kernel_rfl) (by kernel_rfl) (fun _ _ _ _ h => h) (by rfl) hS6 ?_
    apply Exists.intro
    refine ⟨fun w' hw' => ?_, ?_⟩
    · skip
      go_simp
      first | done | rfl
    try simp only [Act.put, List.setIfInBounds_toArray, List.set_cons_zero, List.set_cons_succ]
    refine UntH.take (i := 19) (some 18) rfl rfl (by kernel_rfl) (by kernel_rfl) (by kernel_rfl) (by kernel_rfl) (fun _ _ _ _ h => h) (by rfl) hS6 ?_
    apply Exists.intro
    refine ⟨fun w' hw' => ?_, ?_⟩
    · skip
      go_simp
      first | done | rfl
    try simp only [Act.put, List.setIfInBounds_toArray, List.set_cons_zero, List.set_cons_succ]
    refine UntH.last (by kernel_rfl) rfl (by kernel_rfl) (by kernel_rfl) (fun K hK => ?_)
    go_simp
    refine hK _ _ ?_
    clear hK K hS hS6
    have XB5 := hide (XB4.out.trans (XD.out.mono hB4))
    have hB5 : B ≤ w5.heap.size := Nat.le_trans hB4 XD.out.size
    have hB6 : B ≤ w6.heap.size := Nat.le_trans hB5 OT.out.bl.size
    have PU := hide (put_row (z := z) (i := i) (k := k) HAA.out HCC.out OT.out.ti hpr HFT.out hi hk)
    unfold opA at PU
    obtain ⟨o0, o1, o2, o3, o4, o5, o6, o7, o8⟩ := NB6.out.all
    go_wp2_with (go_at_call 47; refine PU.out.mono ?_; intro e w7 q; obtain ⟨g7, c7, he7, FIN0⟩ := OpT.fin OT.out XB5.out hB6 q (HROW.out _); subst he7; have FIN := hide FIN0; clear FIN0 q)
    go_ret3
    exact FIN.out
  have kw5' : (z.what == 5) = false := beq_eq_false_iff_ne.2 kw5
  have hsr := HSZ.out.each _ (getD_mem hlv)
  obtain ⟨sN, hsN⟩ : ∃ sN : Nat, S.getD lv 0 = (sN : Int) := ⟨(S.getD lv 0).toNat, by omega⟩
  rw [hsN] at hsr
  have HSN := hide hsN
  clear hsN
  by_cases kw6 : z.what = 6
  · have hcl := clZ_lt HSZ.out z
    have ecl : clZ S z = pkZ z.c sN := by unfold clZ; rw [HLV.out, HSN.out, Int.toNat_natCast]
    rw [HLV.out, HSN.out] at hcl
    have PK2 := hide (fun W => pick_any z.c sN HFT.out.c (by omega) (by omega) W)
    rw [← ecl] at PK2
    have HROW0 : Hid ((List.range (prd S)).map (putB S z A C) = rowP S (fun p => sayR N (upd p lv (clZ S z)) fi)) := map_row (fun n hn => by
      unfold putB
      rw [if_neg kw2, if_neg kw3, if_neg kw4, if_neg kw5, if_pos kw6, HLV.out]
      have hp := (pnL_ptl S HSZ.out.pos n).set (l := lv) (c := clZ S z) (by rw [HSN.out]; exact hcl)
      rw [(AT2.out _ (idx_lt S _ hp)).1, pnL_idx S _ hp, ptf_set (by rw [pnL_length]; exact hlv)])
    clear ecl
    generalize clZ S z = cv at *
    have HROW : Hid (∀ er : Int, er = 0 → (List.range (prd S)).map (putB S z A C) = rowP S (fun p => sayR N (upd p lv cv) fi)) := fun _ _ => HROW0.out
    have NT := hide (fun W (x : Below w4.heap.size w4 W) => ((restrict_ok (I4.out.below x).ca (f := fi) (l := lv) (k := cv) HFI.out.1 hlv (by rw [HSN.out]; exact hcl)).mono (fun e w' h => OpL.ti (I4.out.below x) (Nat.le_trans hB4 x.size) h)))
    have kw6' : (z.what == 6) = true := by rw [kw6]; rfl
    clear kw6
    have c3 := I4.out.tb.blk.2.cell hlv
    rw [HSN.out] at c3
    go_upto_region 18 with fail
    have XD : Hid (Below w4.heap.size w4 w4.drew) := (Below.refl _ _).drew
    have hS : w4.drew.cell? ⟨tb, 2, none⟩ = some (.slice (some ⟨fb, 0, none⟩) R.length fc) ∧ w4.drew.cell? ⟨fb, i, none⟩ = some (.int .i64 fi) ∧ w4.drew.cell? ⟨ob, 6, none⟩ = some (.int .i64 z.c) ∧ w4.drew.cell? ⟨tb, 0, none⟩ = some (.slice (some ⟨sb, 0, none⟩) S.length sc) ∧ w4.drew.cell? ⟨sb, lv, none⟩ = some (.int .i64 (sN : Int)) := ⟨t2, c1, o6, t0, c3⟩
    have NB5 : Hid (OpBx w4.drew ob z) := NB4.out
    refine wp_unt (S := fun V => V.cell? ⟨tb, 2, none⟩ = some (.slice (some ⟨fb, 0, none⟩) R.length fc) ∧ V.cell? ⟨fb, i, none⟩ = some (.int .i64 fi) ∧ V.cell? ⟨ob, 6, none⟩ = some (.int .i64 z.c) ∧ V.cell? ⟨tb, 0, none⟩ = some (.slice (some ⟨sb, 0, none⟩) S.length sc) ∧ V.cell? ⟨sb, lv, none⟩ = some (.int .i64 (sN : Int))) 24 (by kernel_rfl) ?_
    generalize w4.drew = w5 at *
    clear t0 t1 t2 t3 o0 o1 o2 o3 o4 o5 o6 o7 o8 c1 c2 c3
    refine UntH.take (i := 0) (some 163) rfl rfl (by kernel_rfl) (by kernel_rfl) (by kernel_rfl) (by kernel_rfl) (fun _ _ _ _ h => h) (by rfl) hS ?_
    apply Exists.intro
    refine ⟨fun w' hw' => ?_, ?_⟩
    · (obtain ⟨q0, q1, q2, q3, q4⟩ := hw')
      go_simp
      first | done | rfl
    try simp only [Act.put, List.setIfInBounds_toArray, List.set_cons_zero, List.set_cons_succ]
    refine UntH.take (i := 1) (some 164) rfl rfl (by kernel_rfl) (by kernel_rfl) (by kernel_rfl) (by kernel_rfl) (fun _ _ _ _ h => h) (by rfl) hS ?_
    apply Exists.intro
    refine ⟨fun w' hw' => ?_, ?_⟩
    · (obtain ⟨q0, q1, q2, q3, q4⟩ := hw')
      go_simp
      first | done | rfl
    try simp only [Act.put, List.setIfInBounds_toArray, List.set_cons_zero, List.set_cons_succ]
    refine UntH.take (i := 2) (some 165) rfl rfl (by kernel_rfl) (by kernel_rfl) (by kernel_rfl) (by kernel_rfl) (fun _ _ _ _ h => h) (by rfl) hS ?_
    apply Exists.intro
    refine ⟨fun w' hw' => ?_, ?_⟩
    · (obtain ⟨q0, q1, q2, q3, q4⟩ := hw')
      go_simp
      first | done | rfl
    try simp only [Act.put, List.setIfInBounds_toArray, List.set_cons_zero, List.set_cons_succ]
    refine UntH.take (i := 3) (some 166) rfl rfl (by kernel_rfl) (by kernel_rfl) (by kernel_rfl) (by kernel_rfl) (fun _ _ _ _ h => h) (by rfl) hS ?_
    apply Exists.intro
    refine ⟨fun w' hw' => ?_, ?_⟩
    · (obtain ⟨q0, q1, q2, q3, q4⟩ := hw')
      go_simp
      first | done | rfl
    try simp only [Act.put, List.setIfInBounds_toArray, List.set_cons_zero, List.set_cons_succ]
    refine UntH.take (i := 4) (some 167) rfl rfl (by kernel_rfl) (by kernel_rfl) (by kernel_rfl) (by kernel_rfl) (fun _ _ _ _ h => h) (by rfl) hS ?_
    apply Exists.intro
    refine ⟨fun w' hw' => ?_, ?_⟩
    · (obtain ⟨q0, q1, q2, q3, q4⟩ := hw')
      go_simp
      first | done | rfl
    try simp only [Act.put, List.setIfInBounds_toArray, List.set_cons_zero, List.set_cons_succ]
    refine UntH.take (i := 5) (some 168) rfl rfl (by kernel_rfl) (by kernel_rfl) (by kernel_rfl) (by kernel_rfl) (fun _ _ _ _ h => h) (by rfl) hS ?_
    apply Exists.intro
    refine ⟨fun w' hw' => ?_, ?_⟩
    · (obtain ⟨q0, q1, q2, q3, q4⟩ := hw')
      go_simp
      first | done | rfl
    try simp only [Act.put, List.setIfInBounds_toArray, List.set_cons_zero, List.set_cons_succ]
    refine UntH.take (i := 6) (some 169) rfl rfl (by kernel_rfl) (by kernel_rfl) (by kernel_rfl) (by kernel_rfl) (fun _ _ _ _ h => h) (by rfl) hS ?_
    apply Exists.intro
    refine ⟨fun w' hw' => ?_, ?_⟩
    · (obtain ⟨q0, q1, q2, q3, q4⟩ := hw')
      go_simp
      first | done | rfl
    try simp only [Act.put, List.setIfInBounds_toArray, List.set_cons_zero, List.set_cons_succ]
    refine UntH.take (i := 7) (some 170) rfl rfl (by kernel_rfl) (by kernel_rfl) (by kernel_rfl) (by kernel_rfl) (fun _ _ _ _ h => h) (by rfl) hS ?_
    apply Exists.intro
    refine ⟨fun w' hw' => ?_, ?_⟩
    · (obtain ⟨q0, q1, q2, q3, q4⟩ := hw')
      go_simp
      first | done | rfl
    try simp only [Act.put, List.setIfInBounds_toArray, List.set_cons_zero, List.set_cons_succ]
    refine UntH.take (i := 8) (some 171) rfl rfl (by kernel_rfl) (by kernel_rfl) (by kernel_rfl) (by kernel_rfl) (fun _ _ _ _ h => h) (by rfl) hS ?_
    apply Exists.intro
    refine ⟨fun w' hw' => ?_, ?_⟩
    · (obtain ⟨q0, q1, q2, q3, q4⟩ := hw')
      go_simp
      first | done | rfl
    try simp only [Act.put, List.setIfInBounds_toArray, List.set_cons_zero, List.set_cons_succ]
    refine UntH.take (i := 9) (some 172) rfl rfl (by kernel_rfl) (by kernel_rfl) (by kernel_rfl) (by kernel_rfl) (fun _ _ _ _ h => h) (by rfl) hS ?_
    apply Exists.intro
    refine ⟨fun w' hw' => ?_, ?_⟩
    · (obtain ⟨q0, q1, q2, q3, q4⟩ := hw')
      go_simp
      first | done | rfl
    try simp only [Act.put, List.setIfInBounds_toArray, List.set_cons_zero, List.set_cons_succ]
    refine UntH.take (i := 10) (some 173) rfl rfl (by kernel_rfl) (by kernel_rfl) (by kernel_rfl) (by kernel_rfl) (fun _ _ _ _ h => h) (by rfl) hS ?_
    apply Exists.intro
    refine ⟨fun w' hw' => ?_, ?_⟩
    · (obtain ⟨q0, q1, q2, q3, q4⟩ := hw')
      go_simp
      first | done | rfl
    try simp only [Act.put, List.setIfInBounds_toArray, List.set_cons_zero, List.set_cons_succ]
    refine UntH.take (i := 11) (some 174) rfl rfl (by kernel_rfl) (by kernel_rfl) (by kernel_rfl) (by kernel_rfl) (fun _ _ _ _ h => h) (by rfl) hS ?_
    apply Exists.intro
    refine ⟨fun w' hw' => ?_, ?_⟩
    · (obtain ⟨q0, q1, q2, q3, q4⟩ := hw')
      go_simp
      first | done | rfl
    try simp only [Act.put, List.setIfInBounds_toArray, List.set_cons_zero, List.set_cons_succ]
    refine UntH.take (i := 12) (some 175) rfl rfl (by kernel_rfl) (by kernel_rfl) (by kernel_rfl) (by kernel_rfl) (fun _ _ _ _ h => h) (by rfl) hS ?_
    apply Exists.intro
    refine ⟨fun w' hw' => ?_, ?_⟩
    · (obtain ⟨q0, q1, q2, q3, q4⟩ := hw')
      go_simp
      first | done | rfl
    try simp only [Act.put, List.setIfInBounds_toArray, List.set_cons_zero, List.set_cons_succ]
    refine UntH.take (i := 13) (some 176) rfl rfl (by kernel_rfl) (by kernel_rfl) (by kernel_rfl) (by kernel_rfl) (fun _ _ _ _ h => h) (by rfl) hS ?_
    apply Exists.intro
    refine ⟨fun w' hw' => ?_, ?_⟩
    · (obtain ⟨q0, q1, q2, q3, q4⟩ := hw')
      go_simp
      first | done | rfl
    try simp only [Act.put, List.setIfInBounds_toArray, List.set_cons_zero, List.set_cons_succ]
    refine UntH.take (i := 14) (some 177) rfl rfl (by kernel_rfl) (by kernel_rfl) (by kernel_rfl) (by kernel_rfl) (fun _ _ _ _ h => h) (by rfl) hS ?_
    apply Exists.intro
    refine ⟨fun w' hw' => ?_, ?_⟩
    · (obtain ⟨q0, q1, q2, q3, q4⟩ := hw')
      go_simp
      first | done | rfl
    try simp only [Act.put, List.setIfInBounds_toArray, List.set_cons_zero, List.set_cons_succ]
    refine UntH.take (i := 15) (some 178) rfl rfl (by kernel_rfl) (by kernel_rfl) (by kernel_rfl) (by kernel_rfl) (fun _ _ _ _ h => h) (by rfl) hS ?_
    apply Exists.intro
    refine ⟨fun w' hw' => ?_, ?_⟩
    · (obtain ⟨q0, q1, q2, q3, q4⟩ := hw')
      go_simp
      first | done | rfl
    try simp only [Act.put, List.setIfInBounds_toArray, List.set_cons_zero, List.set_cons_succ]
    refine UntH.take (i := 16) (some 179) rfl rfl (by kernel_rfl) (by kernel_rfl) (by kernel_rfl) (by kernel_rfl) (fun _ _ _ _ h => h) (by rfl) hS ?_
    apply Exists.intro
    refine ⟨fun w' hw' => ?_, ?_⟩
    · (obtain ⟨q0, q1, q2, q3, q4⟩ := hw')
      go_simp
      first | done | rfl
    try simp only [Act.put, List.setIfInBounds_toArray, List.set_cons_zero, List.set_cons_succ]
    refine UntH.take (i := 17) (some 180) rfl rfl (by kernel_rfl) (by kernel_rfl) (by kernel_rfl) (by kernel_rfl) (fun _ _ _ _ h => h) (by rfl) hS ?_
    apply Exists.intro
    refine ⟨fun w' hw' => ?_, ?_⟩
    · (obtain ⟨q0, q1, q2, q3, q4⟩ := hw')
      go_simp
      first | done | rfl
    try simp only [Act.put, List.setIfInBounds_toArray, List.set_cons_zero, List.set_cons_succ]
    refine UntH.step (i := 18) (by kernel_rfl) rfl (fun K hK => ?_)
    go_simp
    refine (PK2.out w5).mono ?_
    rintro e w9 ⟨rfl, hw8⟩
    have hw9 := hw8.symm
    clear hw8
    subst hw9
    go_simp
    refine hK _ _ hS ?_
    clear hK K PK2
    have NT5 := hide (NT.out w5 XD.out)
    refine UntH.step (i := 19) (by kernel_rfl) rfl (fun K hK => ?_)
    go_simp
    refine NT5.out.mono ?_
    rintro e w6 ⟨r, er, N', P', rfl, ot⟩
    have OT := hide ot
    have NB6 : Hid (OpBx w6 ob z) := NB5.out.kept ot.kp NPO.out
    have hS6 : w6.cell? ⟨tb, 2, none⟩ = some (.slice (some ⟨fb, 0, none⟩) R.length fc) ∧ w6.cell? ⟨fb, i, none⟩ = some (.int .i64 fi) ∧ w6.cell? ⟨ob, 6, none⟩ = some (.int .i64 z.c) ∧ w6.cell? ⟨tb, 0, none⟩ = some (.slice (some ⟨sb, 0, none⟩) S.length sc) ∧ w6.cell? ⟨sb, lv, none⟩ = some (.int .i64 (sN : Int)) := ⟨ot.ti.tb.blk.cells.2.2.1, (ot.kp.cell (p := ⟨fb, i, none⟩) (Nat.lt_of_lt_of_le hfb (Nat.le_trans X4.out.size XD.out.size)) PFB.out).trans hS.2.1, NB6.out.all.2.2.2.2.2.2.1, ot.ti.tb.blk.cells.1, by have h1 := ot.ti.tb.blk.2.cell hlv; rw [HSN.out] at h1; exact h1⟩
    go_simp
    refine hK _ _ hS6 ?_
    clear hK K ot NT NT5
    refine UntH.take (i := 20) (some 162) rfl rfl (by kernel_rfl) (by kernel_rfl) (by kernel_rfl) (by kernel_rfl) (fun _ _ _ _ h => h) (by rfl) hS6 ?_
    apply Exists.intro
    refine ⟨fun w' hw' => ?_, ?_⟩
    · skip
      go_simp
      first | done | rfl
    try simp only [Act.put, List.setIfInBounds_toArray, List.set_cons_zero, List.set_cons_succ]
    refine UntH.take (i := 21) (some 183) rfl rfl (by kernel_rfl) (by kernel_rfl) (by kernel_rfl) (by kernel_rfl) (fun _ _ _ _ h => h) (by rfl) hS6 ?_
    apply Exists.intro
    refine ⟨fun w' hw' => ?_, ?_⟩
    · skip
      go_simp
      first | done | rfl
    try simp only [Act.put, List.setIfInBounds_toArray, List.set_cons_zero, List.set_cons_succ]
    refine UntH.take (i := 22) (some 184) rfl rfl (by kernel_rfl) (by kernel_rfl) (by kernel_rfl) (by kernel_rfl) (fun _ _ _ _ h => h) (by rfl) hS6 ?_
    apply Exists.intro
    refine ⟨fun w' hw' => ?_, ?_⟩
    · skip
      go_simp
      first | done | rfl
    try simp only [Act.put, List.setIfInBounds_toArray, List.set_cons_zero, List.set_cons_succ]
    refine UntH.take (i := 23) (some 20) rfl rfl (by kernel_rfl) (by kernel_rfl) (by kernel_rfl) (by kernel_rfl) (fun _ _ _ _ h => h) (by rfl) hS6 ?_
    apply Exists.intro
    refine ⟨fun w' hw' => ?_, ?_⟩
    · skip
      go_simp
      first | done | rfl
    try simp only [Act.put, List.setIfInBounds_toArray, List.set_cons_zero, List.set_cons_succ]
    refine UntH.last (by kernel_rfl) rfl (by kernel_rfl) (by kernel_rfl) (fun K hK => ?_)
    go_simp
    refine hK _ _ ?_
    clear hK K hS hS6
    have XB5 := hide (XB4.out.trans (XD.out.mono hB4))
    have hB5 : B ≤ w5.heap.size := Nat.le_trans hB4 XD.out.size
    have hB6 : B ≤ w6.heap.size := Nat.le_trans hB5 OT.out.bl.size
    have PU := hide (put_row (z := z) (i := i) (k := k) HAA.out HCC.out OT.out.ti hpr HFT.out hi hk)
    unfold opA at PU
    obtain ⟨o0, o1, o2, o3, o4, o5, o6, o7, o8⟩ := NB6.out.all
    go_wp2_with (go_at_call 47; refine PU.out.mono ?_; intro e w7 q; obtain ⟨g7, c7, he7, FIN0⟩ := OpT.fin OT.out XB5.out hB6 q (HROW.out _); subst he7; have FIN := hide FIN0; clear FIN0 q)
    go_ret3
    exact FIN.out
  have kw6' : (z.what == 6) = false := beq_eq_false_iff_ne.2 kw6
  clear kw2 kw3 kw4 kw5 kw6
  obtain ⟨i4, hi4, hz40, hz41, hz42⟩ := info_parts Try.info4
  have IN4 := hide ((HIN.out.below (w' := w1) (by rw [HOB.out] at *; exact XW1.out)).below X4.out)
  obtain ⟨inL, hinL⟩ : ∃ L, L = (List.range sN).map (fun c => decide (c < IN.length) && IN.getD c false) := ⟨_, rfl⟩
  have HINL := hide hinL
  have c3 := I4.out.tb.blk.2.cell hlv
  rw [HSN.out] at c3
  clear hinL
  rw [HIL.out] at o7
  have HTK : Hid (∀ k, k < sN → ((List.range (k + 1)).map (fun c => decide (c < IN.length) && IN.getD c false)) = ((List.range k).map (fun c => decide (c < IN.length) && IN.getD c false)) ++ [decide (k < IN.length) && IN.getD k false]) := fun k _ => range_snoc _ k
  go_upto_block 1 with fail
  go_cut [22] (fun v wx => ∃ g c, v = .slice (some ⟨g, 0, none⟩) sN c ∧ Hid (BBk wx g inL ∧ w4.heap.size ≤ g) ∧ Hid (Below w4.heap.size w4 wx))
  case first =>
    go_wp2
    go_loopw [22, 23] (fun v x wr => ∃ k : Nat, k ≤ sN ∧ x = .int .i64 k ∧ Hid (wr.ownsRow w4.heap.size 4 1 v k (bC ((List.range k).map (fun c => decide (c < IN.length) && IN.getD c false)))) ∧ Hid (Below w4.heap.size w4 wr)) (fun _ x _ => sN - (RowKit.intOf x).toNat)
    case atStart => exact ⟨0, Nat.zero_le _, rfl, World.ownsRow_nil _ _ _ _, Below.refl _ _⟩
    case round =>
      obtain ⟨kk, hkk, rfl, HO, HQ⟩ := hrel
      obtain ⟨la, lc, rfl, _⟩ := own_shape HO.out
      obtain ⟨u0, u1, u2, u3⟩ := (I4.out.below HQ.out).tb.blk.cells
      have u4 := (HQ.out.cell (p := ⟨sb, lv, none⟩) I4.out.tb.blk.2.lt).trans c3
      have u7 := (HQ.out.cell (p := ⟨ob, 7, none⟩) (lt_of_block NB4.out)).trans o7
      by_cases hlt : kk < sN
      · have hlt' : (kk : Int) < (sN : Int) := by omega
        have HTKk := hide (HTK.out kk hlt)
        have y5 : ∀ b : Bool, Below wr.heap.size wr (wr.alloc (.cells #[.bool b] 4)) := fun b => al (Below.refl _ _) _
        have Y5 := hide y5
        have HO5 := hide (fun b => own_below HO.out (y5 b))
        have hbr : w4.heap.size ≤ wr.heap.size := HQ.out.size
        have NXT : Hid (∀ (b : Bool) (v4 : Value) (w9 : World), (decide (kk < IN.length) && IN.getD kk false) = b → w9.ownsRow w4.heap.size 4 1 v4 (kk + 1) (bC ((List.range kk).map (fun c => decide (c < IN.length) && IN.getD c false)) ++ [.bool b]) → AppAt (wr.alloc (.cells #[.bool b] 4)) w9 (.slice la kk lc) v4 → w9.ownsRow w4.heap.size 4 1 v4 (kk + 1) (bC ((List.range (kk + 1)).map (fun c => decide (c < IN.length) && IN.getD c false))) ∧ Below w4.heap.size w4 w9) := fun b v4 w9 hb h1 h2 => by
          refine ⟨by rw [HTKk.out, bC_snoc, hb]; exact h1, ?_⟩
          exact Below.trans (bt HQ.out (Y5.out b) (Nat.le_refl _)) ((appK h2).below (Nat.le_trans hbr (Y5.out b).size) (fun x hx => (World.ownsRow.lt (HO5.out b) x hx).1))
        by_cases hin : kk < IN.length
        · have hin' : (kk : Int) < (IN.length : Int) := by omega
          obtain ⟨b9, o9, hia, hb9, g9⟩ := (IN4.out.below HQ.out).get hin
          rw [hia] at u7
          clear hia
          obtain ⟨bv, hbv⟩ : ∃ b, IN.getD kk false = b := ⟨_, rfl⟩
          rw [hbv] at g9
          have HBV : Hid ((decide (kk < IN.length) && IN.getD kk false) = bv) := by unfold Hid; rw [decide_eq_true hin, hbv]; rfl
          clear hbv hin
          go_wp2_with (at_builtin; refine wpList_append_view rfl (.tmp 203) (.tmp 216) 36 rfl w4.heap.size 4 i4 (.bool false) 1 1 Try.underlying36 hi4 hz40 hz41 hz42 rfl (by decide) _ kk _ rfl (HO5.out bv) ⟨wr.heap.size, 0, none⟩ 1 1 [.bool bv] rfl rfl (one_new wr _ _) (by simp [Value.oneCell']) (by decide) (by unfold maxLen; omega) (by omega) (Nat.le_trans hbr (Y5.out bv).size) ?_; intro v4 w9 h1 h2; obtain ⟨ao4, cap4, hv4, _⟩ := own_shape h1; subst hv4; have NX := hide (NXT.out bv _ w9 HBV.out h1 h2); clear h1 h2)
          go_roundw
          case rel => exact ⟨kk + 1, by omega, by go_num, NX.out.1, NX.out.2⟩
          case measure => simp [RowKit.intOf]; omega
        · have hin' : ¬ (kk : Int) < (IN.length : Int) := by omega
          have HBV : Hid ((decide (kk < IN.length) && IN.getD kk false) = false) := by unfold Hid; rw [decide_eq_false hin]; rfl
          clear hin
          go_wp2_with (at_builtin; refine wpList_append_view rfl (.tmp 203) (.tmp 216) 36 rfl w4.heap.size 4 i4 (.bool false) 1 1 Try.underlying36 hi4 hz40 hz41 hz42 rfl (by decide) _ kk _ rfl (HO5.out false) ⟨wr.heap.size, 0, none⟩ 1 1 [.bool false] rfl rfl (one_new wr _ _) (by simp [Value.oneCell']) (by decide) (by unfold maxLen; omega) (by omega) (Nat.le_trans hbr (Y5.out false).size) ?_; intro v4 w9 h1 h2; obtain ⟨ao4, cap4, hv4, _⟩ := own_shape h1; subst hv4; have NX := hide (NXT.out false _ w9 HBV.out h1 h2); clear h1 h2)
          go_roundw
          case rel => exact ⟨kk + 1, by omega, by go_num, NX.out.1, NX.out.2⟩
          case measure => simp [RowKit.intOf]; omega
      · have hlt' : ¬ (kk : Int) < (sN : Int) := by omega
        obtain rfl : kk = sN := by omega
        have ho := HO.out
        rw [← HINL.out] at ho
        have hll : inL.length = kk := by rw [HINL.out]; simp
        rw [← hll] at ho
        obtain ⟨g, c9, hv, hg, hb⟩ := own_bbk ho (by omega)
        rw [hll] at hv
        have HV := hide hv
        have HB9 := hide (And.intro hb hg)
        clear ho hv hg hb hll
        go_wp2
        go_meet
        exact ⟨g, c9, HV.out, HB9, HQ⟩
  obtain ⟨gi, ci, rfl, HBI, X5⟩ := hcut
  obtain ⟨w5, hw5⟩ : ∃ w5, w5 = wc := ⟨_, rfl⟩
  subst hw5
  have I5 := hide (I4.out.below X5.out)
  have hB5 : B ≤ w5.heap.size := Nat.le_trans hB4 X5.out.size
  have XB5 := hide (XB4.out.trans (X5.out.mono hB4))
  have hll : inL.length = sN := by rw [HINL.out]; simp
  have ST := set_ok (B := inL) (l := lv) (cap := ci) I5.out.ca (by omega) hlv (by rw [HSN.out, hll]) HBI.out.1.at
  rw [hll] at ST
  have NT := hide (ST.mono (fun e w' h => OpL.ti I5.out hB5 h))
  have HLL := hide hll
  clear ST hll t0 t1 t2 t3 o0 o1 o2 o3 o4 o5 o6 o7 o8 c1 c2 c3
  go_upto_region 26 with (go_at_call 23; refine NT.out.mono ?_; rintro e w6 ⟨r, er, N', P', rfl, ot⟩; have OT := hide ot; clear ot)
  clear NT
  have hB6 : B ≤ w6.heap.size := Nat.le_trans hB5 OT.out.bl.size
  have NPG : Hid (¬ P gi) := fun hp => by have h1 := I4.out.ca.plt hp; have h2 := HBI.out.2; omega
  have BI6 := hide (HBI.out.1.kept OT.out.kp NPG.out)
  have hpp : 0 < prd S := by
    have := idx_lt S _ (pnL_ptl S HSZ.out.pos 0)
    omega
  go_wp2
  go_loopw [26, 27] (fun v x wr => ∃ n : Nat, n ≤ prd S ∧ x = .int .i64 n ∧ Hid (wr.ownsRow w6.heap.size 4 1 v n (bC ((List.range n).map (fun n => inL.getD (ptf (pnL S n) lv) false)))) ∧ Hid (Below w6.heap.size w6 wr)) (fun _ x _ => prd S - (RowKit.intOf x).toNat)
  case atStart => exact ⟨0, Nat.zero_le _, rfl, World.ownsRow_nil _ _ _ _, Below.refl _ _⟩
  case round =>
    obtain ⟨n, hn, rfl, HO, HQ⟩ := hrel
    obtain ⟨la, lc, rfl, _⟩ := own_shape HO.out
    have I9 := hide (OT.out.ti.below HQ.out)
    obtain ⟨u0, u1, u2, u3⟩ := I9.out.tb.blk.cells
    by_cases hlt : n < prd S
    · have hlt' : (n : Int) < (prd S : Int) := by omega
      have PT := hide (point_any (n := n) I9.out.tb.blk HSZ.out (by omega))
      go_upto_region 31 with (go_at_call 46; refine PT.out.mono ?_; rintro e w7 ⟨g, c, rfl, hg, z2, x2⟩; have X7 := hide x2; have Z7 := hide z2; clear hg z2 x2)
      clear PT
      have hpl := pnL_ptl S HSZ.out.pos n
      have hpe := hpl.each lv (by rw [pnL_length]; exact hlv)
      have q1 := Z7.out.cell (i := lv) (by rw [pnL_length]; exact hlv)
      obtain ⟨pc, hpc⟩ : ∃ pc : Nat, (pnL S n).getD lv 0 = (pc : Int) := ⟨((pnL S n).getD lv 0).toNat, by omega⟩
      have hptf : ptf (pnL S n) lv = pc := by unfold ptf; rw [hpc, Int.toNat_natCast]
      rw [hpc] at q1 hpe
      have hpcs : pc < sN := by have := HSN.out; omega
      have hpcs' : (pc : Int) < (sN : Int) := by omega
      have q2 := ((BI6.out.below HQ.out).below X7.out).cell (i := pc) (by rw [HLL.out]; exact hpcs)
      obtain ⟨bv, hbv⟩ : ∃ b, inL.getD pc false = b := ⟨_, rfl⟩
      rw [hbv] at q2
      have HTKk : Hid (((List.range (n + 1)).map (fun n => inL.getD (ptf (pnL S n) lv) false)) = ((List.range n).map (fun n => inL.getD (ptf (pnL S n) lv) false)) ++ [bv]) := by unfold Hid; rw [range_snoc, hptf, hbv]
      have hql : ((pnL S n).length : Int) = (S.length : Int) := by rw [pnL_length]
      have y8 : Below w7.heap.size w7 (w7.alloc (.cells #[.bool bv] 4)) := al (Below.refl _ _) _
      have Y8 := hide y8
      have HO8 := hide (own_below (own_below HO.out X7.out) y8)
      have XX7 := hide (bt HQ.out X7.out (Nat.le_refl _))
      clear y8 hbv hptf hpc hpe hpl hpcs
      go_wp2_with (at_builtin; refine wpList_append_view rfl (.tmp 236) (.tmp 244) 36 rfl w6.heap.size 4 i4 (.bool false) 1 1 Try.underlying36 hi4 hz40 hz41 hz42 rfl (by decide) _ n _ rfl HO8.out ⟨w7.heap.size, 0, none⟩ 1 1 [.bool bv] rfl rfl (one_new w7 _ _) (by simp [Value.oneCell']) (by decide) (by unfold maxLen; omega) (by omega) (Nat.le_trans XX7.out.size Y8.out.size) ?_; intro v4 w9 h1 h2; obtain ⟨ao4, cap4, hv4, _⟩ := own_shape h1; subst hv4; have O9 := hide h1; have X9 := hide (Below.trans (bt XX7.out Y8.out (Nat.le_refl _)) ((appK h2).below (Nat.le_trans XX7.out.size Y8.out.size) (fun x hx => (World.ownsRow.lt HO8.out x hx).1))); clear h1 h2)
      go_roundw
      case rel => exact ⟨n + 1, by omega, by go_num, by unfold Hid; rw [HTKk.out, bC_snoc]; exact O9.out, X9⟩
      case measure => simp [RowKit.intOf]; omega
    · have hlt' : ¬ (n : Int) < (prd S : Int) := by omega
      obtain rfl : n = prd S := by omega
      obtain ⟨Lr, hLr⟩ : ∃ L, L = (List.range (prd S)).map (fun n => inL.getD (ptf (pnL S n) lv) false) := ⟨_, rfl⟩
      have ho := HO.out
      rw [← hLr] at ho
      have hll : Lr.length = prd S := by rw [hLr]; simp
      rw [← hll] at ho
      obtain ⟨g, c9, hv, hg, hb⟩ := own_bbk ho (by omega)
      rw [hll] at hv
      have q : PuL S Lr w6 (.returned (.slice (some ⟨g, 0, none⟩) (prd S) c9)) wr := ⟨g, c9, rfl, hg, hb, HQ.out⟩
      obtain ⟨g2, c2, he, FIN0⟩ := OpT.fin OT.out XB5.out hB6 q (fun _ => by rw [hLr]; rfl)
      have hee : la = some ⟨g2, 0, none⟩ ∧ lc = c2 := by
        injection he with he
        rw [he] at hv
        injection hv with h1 h2 h3
        exact ⟨h1, h3⟩
      obtain ⟨rfl, rfl⟩ := hee
      have FIN := hide FIN0
      clear ho hv hg hb hll hLr q he FIN0
      go_wp2
      go_ret3
      exact FIN.out
end
end Go.Proofs.Ytaafeflbanoncaa
