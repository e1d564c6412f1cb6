/-
  Ports added to a test that is being read. Condition: the list is short.
-/
import Derived.Test.YtlmhofjiobmodaaGreatDoorQ12
namespace Go.Proofs.YtlmhofjiobmodaaGreatDoor
open Go.RowKit Go.Lib

/-- What a reading of a test comes to. -/
def PostL (base cp rbase rp g cap : Nat) (Ts : List Tk) (w : World) (x : PR CT) (e : Ending) (w' : World) : Prop := match x with
  | .ok c j => e = .returned (.tuple #[]) ∧ (∃ v3 v4 v5, TcA w' base cp c v3 v4 v5) ∧ RdA w' rbase rp g cap Ts j ∧ LfK base rp w w'
  | .bad e0 p => e = pan e0 p ∧ LfK base rp w w'
  | .out => False
/-- The second number of ports. -/
def PoR (Ts : List Tk) (n : Int) (i : Nat) : Option (Int × Nat) := if isT Ts 7 [45] i = true then (if (tok Ts (i + 1)).k = 4 then some ((tok Ts (i + 1)).n, i + 2) else none) else some (n, i)
theorem addP_some {Ts : List Tk} {c : CT} {t : Tk} {i j : Nat} {m : Int} (h : PoR Ts t.n i = some (m, j)) : addP Ts 4 c t i = .ok (.mk c.k c.nm c.tx c.pre (c.sp ++ [(t.n, m)]) c.ns c.kids c.p) j := by
  unfold PoR at h
  unfold addP takeP
  split at h
  · rename_i h1
    split at h
    · rename_i h2
      cases h
      simp [h1, h2, PR.bind]
    · cases h
  · rename_i h1
    cases h
    simp [h1]
theorem addP_none {Ts : List Tk} {c : CT} {t : Tk} {i : Nat} (h : PoR Ts t.n i = none) : addP Ts 4 c t i = .bad 90 (tok Ts (i + 1)).p := by
  unfold PoR at h
  unfold addP takeP
  split at h
  · rename_i h1
    split at h
    · cases h
    · rename_i h2
      simp [h1, h2, PR.bind]
  · cases h
theorem ports_some {w : World} {base rp g cap : Nat} {Ts : List Tk} {i j : Nat} {n m : Int} (h : RdA w base rp g cap Ts i) (hp : PoR Ts n i = some (m, j)) : Calls Tryz.prog 180 #[.pointer (some ⟨rp, 0, none⟩), .int .i64 n] w fun e w' => e = .returned (.agg #[.int .i64 n, .int .i64 m]) ∧ RdA w' base rp g cap Ts j ∧ Kept (fun k => k = rp) w w' := by
  unfold PoR at hp
  split at hp
  · rename_i h1
    split at hp
    · rename_i h2
      cases hp
      exact ports_two h n h1 h2
    · cases hp
  · rename_i h1
    cases hp
    refine (ports_one h n (by simpa using h1)).mono ?_
    rintro e w' ⟨h2, h3⟩
    exact ⟨h2, h.below h3, Kept.of_below h3⟩
theorem ports_none {w : World} {base rp g cap : Nat} {Ts : List Tk} {i : Nat} {n : Int} (h : RdA w base rp g cap Ts i) (hp : PoR Ts n i = none) : Calls Tryz.prog 180 #[.pointer (some ⟨rp, 0, none⟩), .int .i64 n] w fun e w' => e = pan 90 (tok Ts (i + 1)).p ∧ Kept (fun k => k = rp) w w' := by
  unfold PoR at hp
  split at hp
  · rename_i h1
    split at hp
    · cases hp
    · rename_i h2
      exact ports_bad h n h1 h2
  · cases hp
set_option maxRecDepth 100000 in
set_option maxHeartbeats 2000000 in
theorem addS_ok {w : World} {base cp vp rv rbase rp g cap : Nat} {Ts : List Tk} {i : Nat} {c : CT} {v3 v4 v5 : Value} {m : Int} {j : Nat} (t : Tk) (hp : PoR Ts t.n i = some (m, j)) (hT : TcA w base cp c v3 v4 v5) (hv : w.heap[vp]? = some (.cells #[.pointer (some ⟨cp, 0, none⟩)] 177 (0, 0))) (hrv : w.heap[rv]? = some (.cells #[.pointer (some ⟨rp, 0, none⟩)] 102 (0, 0))) (hn : c.sp.length ≤ 64) (hR : RdA w rbase rp g cap Ts i) :
    Calls Tryz.prog 179 #[.agg (tkV t), .pointer (some ⟨vp, 0, none⟩), .pointer (some ⟨rv, 0, none⟩)] w fun e w' => e = .returned (.tuple #[]) ∧ (∃ v4', TcA w' base cp (.mk c.k c.nm c.tx c.pre (c.sp ++ [(t.n, m)]) c.ns c.kids c.p) v3 v4' v5) ∧ RdA w' rbase rp g cap Ts j ∧ LfK base rp w w' := by
  obtain ⟨ie, hie, hz0, hz1, hz2⟩ := info_parts Tryz.info68n
  obtain ⟨av, cv, hvv, _⟩ := own_shape hT.o4
  subst hvv
  obtain ⟨W, hW⟩ : ∃ W, W = w.alloc (.cells #[.int .i64 t.k, .string ⟨t.t.toArray⟩, .int .i64 t.n, .int .i64 t.a, .int .i64 t.b, .int .i64 t.p] 49) := ⟨_, rfl⟩
  have XW := hide (show Below w.heap.size w W by rw [hW]; exact al (Below.refl _ _) _)
  have HP := hide (show W.heap[w.heap.size]? = some (.cells #[.int .i64 t.k, .string ⟨t.t.toArray⟩, .int .i64 t.n, .int .i64 t.a, .int .i64 t.b, .int .i64 t.p] 49 (0, 0)) by rw [hW]; exact heap_alloc_new w _)
  obtain ⟨P, hP⟩ : ∃ P, P = w.heap.size := ⟨_, rfl⟩
  rw [← hP] at HP
  have T1 := hide (hT.below XW.out)
  have V1 := hide ((XW.out.block vp (lt_of_block hv)).trans hv)
  have U1 := hide ((XW.out.block rv (lt_of_block hrv)).trans hrv)
  have R1 := hide (hR.below XW.out)
  have HN := hide hn
  have HPo := hide hp
  clear hT hv hR hn hrv hp
  unfold tkV
  go_enter Tryz.func179, Tryz.ntmps179
  go_upto_region 1 with fail
  rw [← hW, ← hP]
  clear hW hP
  refine wp_unt (S := fun V => V.cell? ⟨vp, 0, none⟩ = some (.pointer (some ⟨cp, 0, none⟩)) ∧ V.cell? ⟨cp, 4, none⟩ = some (.slice av c.sp.length cv) ∧ V.cell? ⟨P, 2, none⟩ = some (.int .i64 t.n) ∧ V.cell? ⟨rv, 0, none⟩ = some (.pointer (some ⟨rp, 0, none⟩))) 13 (by kernel_rfl) ?_
  have HS0 : Hid (Below W.heap.size W W.drew) := (Below.refl _ _).drew
  have T2 := hide (T1.out.below HS0.out)
  have V2 := hide ((HS0.out.block vp (lt_of_block V1.out)).trans V1.out)
  have U2 := hide ((HS0.out.block rv (lt_of_block U1.out)).trans U1.out)
  have P2 := hide ((HS0.out.block P (lt_of_block HP.out)).trans HP.out)
  have R2 := hide (R1.out.below HS0.out)
  have X2 := hide (bt XW.out HS0.out (Nat.le_refl _))
  clear HS0 T1 V1 U1 HP R1 XW
  generalize W.drew = wd at *
  have SF : Hid (∀ V : World, V.heap[vp]? = some (.cells #[.pointer (some ⟨cp, 0, none⟩)] 177 (0, 0)) → V.heap[cp]? = wd.heap[cp]? → V.heap[P]? = some (.cells #[.int .i64 t.k, .string ⟨t.t.toArray⟩, .int .i64 t.n, .int .i64 t.a, .int .i64 t.b, .int .i64 t.p] 49 (0, 0)) → V.heap[rv]? = some (.cells #[.pointer (some ⟨rp, 0, none⟩)] 102 (0, 0)) → V.cell? ⟨vp, 0, none⟩ = some (.pointer (some ⟨cp, 0, none⟩)) ∧ V.cell? ⟨cp, 4, none⟩ = some (.slice av c.sp.length cv) ∧ V.cell? ⟨P, 2, none⟩ = some (.int .i64 t.n) ∧ V.cell? ⟨rv, 0, none⟩ = some (.pointer (some ⟨rp, 0, none⟩))) := fun V h1 h2 h3 h4 => by
    have h2 := h2.trans T2.out.blk
    exact ⟨by rw [cell_of_row _ _ _ _ _ _ h1]; rfl, by rw [cell_of_row _ _ _ _ _ _ h2]; rfl, by rw [cell_of_row _ _ _ _ _ _ h3]; rfl, by rw [cell_of_row _ _ _ _ _ _ h4]; rfl⟩
  have S2 := hide (SF.out wd V2.out rfl P2.out U2.out)
  refine UntH.take (i := 0) (some 4) rfl rfl (by kernel_rfl) (by kernel_rfl) (by kernel_rfl) (by kernel_rfl) (fun _ _ _ _ h => h) (by rfl) S2.out ?_
  apply Exists.intro
  refine ⟨fun w' hw' => ?_, ?_⟩
  · obtain ⟨q1, q2, q3, q4⟩ := hw'
    go_simp
    first | done | rfl
  try simp only [Act.put, List.setIfInBounds_toArray, List.set_cons_zero, List.set_cons_succ]
  refine UntH.take (i := 1) (some 5) rfl rfl (by kernel_rfl) (by kernel_rfl) (by kernel_rfl) (by kernel_rfl) (fun _ _ _ _ h => h) (by rfl) S2.out ?_
  apply Exists.intro
  refine ⟨fun w' hw' => ?_, ?_⟩
  · obtain ⟨q1, q2, q3, q4⟩ := hw'
    go_simp
    first | done | rfl
  try simp only [Act.put, List.setIfInBounds_toArray, List.set_cons_zero, List.set_cons_succ]
  refine UntH.take (i := 2) (some 6) rfl rfl (by kernel_rfl) (by kernel_rfl) (by kernel_rfl) (by kernel_rfl) (fun _ _ _ _ h => h) (by rfl) S2.out ?_
  apply Exists.intro
  refine ⟨fun w' hw' => ?_, ?_⟩
  · obtain ⟨q1, q2, q3, q4⟩ := hw'
    go_simp
    first | done | rfl
  try simp only [Act.put, List.setIfInBounds_toArray, List.set_cons_zero, List.set_cons_succ]
  refine UntH.take (i := 3) (some 7) rfl rfl (by kernel_rfl) (by kernel_rfl) (by kernel_rfl) (by kernel_rfl) (fun _ _ _ _ h => h) (by rfl) S2.out ?_
  apply Exists.intro
  refine ⟨fun w' hw' => ?_, ?_⟩
  · obtain ⟨q1, q2, q3, q4⟩ := hw'
    go_simp
    first | done | rfl
  try simp only [Act.put, List.setIfInBounds_toArray, List.set_cons_zero, List.set_cons_succ]
  refine UntH.take (i := 4) (some 8) rfl rfl (by kernel_rfl) (by kernel_rfl) (by kernel_rfl) (by kernel_rfl) (fun _ _ _ _ h => h) (by rfl) S2.out ?_
  apply Exists.intro
  refine ⟨fun w' hw' => ?_, ?_⟩
  · obtain ⟨q1, q2, q3, q4⟩ := hw'
    go_simp
    first | done | rfl
  try simp only [Act.put, List.setIfInBounds_toArray, List.set_cons_zero, List.set_cons_succ]
  refine UntH.take (i := 5) (some 9) rfl rfl (by kernel_rfl) (by kernel_rfl) (by kernel_rfl) (by kernel_rfl) (fun _ _ _ _ h => h) (by rfl) S2.out ?_
  apply Exists.intro
  refine ⟨fun w' hw' => ?_, ?_⟩
  · obtain ⟨q1, q2, q3, q4⟩ := hw'
    go_simp
    first | done | rfl
  try simp only [Act.put, List.setIfInBounds_toArray, List.set_cons_zero, List.set_cons_succ]
  refine UntH.take (i := 6) (some 10) rfl rfl (by kernel_rfl) (by kernel_rfl) (by kernel_rfl) (by kernel_rfl) (fun _ _ _ _ h => h) (by rfl) S2.out ?_
  apply Exists.intro
  refine ⟨fun w' hw' => ?_, ?_⟩
  · obtain ⟨q1, q2, q3, q4⟩ := hw'
    go_simp
    first | done | rfl
  try simp only [Act.put, List.setIfInBounds_toArray, List.set_cons_zero, List.set_cons_succ]
  refine UntH.take (i := 7) (some 11) rfl rfl (by kernel_rfl) (by kernel_rfl) (by kernel_rfl) (by kernel_rfl) (fun _ _ _ _ h => h) (by rfl) S2.out ?_
  apply Exists.intro
  refine ⟨fun w' hw' => ?_, ?_⟩
  · obtain ⟨q1, q2, q3, q4⟩ := hw'
    go_simp
    first | done | rfl
  try simp only [Act.put, List.setIfInBounds_toArray, List.set_cons_zero, List.set_cons_succ]
  have HPT := hide (ports_some R2.out HPo.out)
  refine UntH.step (i := 8) (by kernel_rfl) rfl (fun K hK => ?_)
  go_simp
  refine HPT.out.mono ?_
  rintro e w5 ⟨rfl, r5, k5⟩
  have R5 := hide r5
  have T5 := hide (T2.out.rp k5 R2.out.blk)
  have ne5 : ∀ (k : Nat) (cs : Array Value) (ty : TypeId) (f : Nat × Nat), wd.heap[k]? = some (.cells cs ty f) → ty ≠ 73 → w5.heap[k]? = some (.cells cs ty f) := fun k _ _ _ hk ht => (k5.block k (lt_of_block hk) (fun e => by subst e; exact block_ne hk R2.out.blk ht rfl)).trans hk
  have V5 := hide (ne5 _ _ _ _ V2.out (by decide))
  have U5 := hide (ne5 _ _ _ _ U2.out (by decide))
  have P5 := hide (ne5 _ _ _ _ P2.out (by decide))
  have C5 := hide ((ne5 _ _ _ _ T2.out.blk (by decide)).trans T2.out.blk.symm)
  have S5 := hide (SF.out w5 V5.out C5.out P5.out U5.out)
  have L5 : Hid (LfK base rp w w5) := (LfK.of_below X2.out).trans (LfK.of_rp k5)
  refine hK _ _ S5.out ?_
  clear hK K HPT ne5 r5 k5 V2 U2 P2 R2 S2 X2
  try simp only [Act.put, List.setIfInBounds_toArray, List.set_cons_zero, List.set_cons_succ]
  have X6 : Hid (Below w5.heap.size w5 (w5.alloc (.cells #[.int .i64 t.n, .int .i64 m] 68))) := al (Below.refl _ _) _
  have T6 := hide (T5.out.below X6.out)
  have V6 := hide ((X6.out.block vp (lt_of_block V5.out)).trans V5.out)
  have U6 := hide ((X6.out.block rv (lt_of_block U5.out)).trans U5.out)
  have P6 := hide ((X6.out.block P (lt_of_block P5.out)).trans P5.out)
  have R6 := hide (R5.out.below X6.out)
  have S6 := hide (SF.out _ V6.out ((X6.out.block cp (lt_of_block T5.out.blk)).trans C5.out) P6.out U6.out)
  have HNW := hide (World.news_of_block (heap_alloc_new w5 (.cells #[.int .i64 t.n, .int .i64 m] 68)))
  have HSW : Hid (base ≤ (w5.alloc (.cells #[.int .i64 t.n, .int .i64 m] 68)).heap.size) := Nat.le_trans T6.out.bas (Nat.le_of_lt (lt_of_block T6.out.blk))
  have L6 : Hid (LfK base rp w (w5.alloc (.cells #[.int .i64 t.n, .int .i64 m] 68))) := L5.out.trans (LfK.of_below X6.out)
  refine UntH.step (i := 9) (by kernel_rfl) rfl (fun K hK => ?_)
  go_simp
  refine hK _ _ S6.out ?_
  clear hK K
  try simp only [Act.put, List.setIfInBounds_toArray, List.set_cons_zero, List.set_cons_succ]
  refine UntH.step (i := 10) (by kernel_rfl) rfl (fun K hK => ?_)
  refine step_append_lies _ (by rfl) (.tmp 8) (.tmp 13) 57 (by rfl) base 68 ie (.agg #[.int .i64 0, .int .i64 0]) 2 16 Tryz.underlying57 hie hz0 hz1 hz2 rfl (by decide) _ c.sp.length (prC c.sp) (by rfl) T6.out.o4 ⟨w5.heap.size, 0, none⟩ 1 1 [.int .i64 t.n, .int .i64 m] (by rfl) (by rfl) HNW.out (by simp [Value.oneCell']) (by decide) (by have := HN.out; unfold maxLen; omega) (by have := HN.out; omega) HSW.out _ rfl ?_
  intro g6 cap6 w6 h1 h2 h3 h4
  have KC : Hid (Kept (fun k => (Value.slice av c.sp.length cv).ownBlock = some k) (w5.alloc (.cells #[.int .i64 t.n, .int .i64 m] 68)) w6) := kept_of_grown h2
  have HC : Hid (∀ k, (Value.slice av c.sp.length cv).ownBlock = some k → ∃ cs ty f, (w5.alloc (.cells #[.int .i64 t.n, .int .i64 m] 68)).heap[k]? = some (.cells cs ty f) ∧ ty = 68) := fun k hk => by
    obtain ⟨cs, h5⟩ := own_ty T6.out.o4 k hk
    exact ⟨cs, 68, _, h5, rfl⟩
  have kb : ∀ (k : Nat) (cs : Array Value) (ty : TypeId) (f : Nat × Nat), (w5.alloc (.cells #[.int .i64 t.n, .int .i64 m] 68)).heap[k]? = some (.cells cs ty f) → ty ≠ 68 → w6.heap[k]? = some (.cells cs ty f) := fun k _ _ _ hk ht => (KC.out.block k (lt_of_block hk) (fun hf => by
    obtain ⟨cs', t', f', h5, h6⟩ := HC.out k hf
    rw [hk] at h5
    simp at h5
    exact ht (by rw [h5.2.1]; exact h6))).trans hk
  have B7 := hide (kb _ _ _ _ T6.out.blk (by decide))
  have V7 := hide (kb _ _ _ _ V6.out (by decide))
  have U7 := hide (kb _ _ _ _ U6.out (by decide))
  have P7 := hide (kb _ _ _ _ P6.out (by decide))
  have R7 : Hid (RdA w6 rbase rp g cap Ts j) := R6.out.kept KC.out (fun hf => by obtain ⟨cs', t', f', h5, h6⟩ := HC.out _ hf; rw [R6.out.blk] at h5; simp at h5; rw [← h5.2.1] at h6; cases h6) (fun hf => by obtain ⟨cs', t', f', h5, h6⟩ := HC.out _ hf; obtain ⟨cs2, h7⟩ := own_ty R6.out.row g rfl; rw [h7] at h5; simp at h5; rw [← h5.2.1] at h6; cases h6)
  have ow : ∀ {e : TypeId} {size n : Nat} {v : Value} {xs : List Value}, (w5.alloc (.cells #[.int .i64 t.n, .int .i64 m] 68)).ownsRow base e size v n xs → e ≠ 68 → w6.ownsRow base e size v n xs := fun ho he => own_other ho KC.out (fun k hk => by obtain ⟨cs', t', f', h5, h6⟩ := HC.out k hk; exact ⟨cs', t', f', h5, by rw [h6]; exact fun e => he e.symm⟩)
  have L7 : Hid (LfK base rp w w6) := L6.out.trans (LfK.of_own T6.out.o4 (by decide) KC.out)
  have S7 := hide (SF.out w6 V7.out (B7.out.trans T2.out.blk.symm) P7.out U7.out)
  have O7 : Hid (w6.ownsRow base 68 2 (.slice (some ⟨g6, 0, none⟩) (c.sp.length + 1) cap6) (c.sp ++ [(t.n, m)]).length (prC (c.sp ++ [(t.n, m)])) ∧ w6.ownsRow base 47 2 v3 c.pre.length (prC c.pre) ∧ w6.ownsRow base 9 1 v5 c.ns.length (nsC c.ns)) := ⟨by rw [List.length_append, prC_snoc]; exact h1, ow T6.out.o3 (by decide), ow T6.out.o5 (by decide)⟩
  have HKD := hide T6.out.kids
  have HBS := hide T6.out.bas
  refine hK _ _ S7.out ?_
  clear hK K h1 h2 h3 h4 kb ow KC HC T6 V6 U6 P6 R6 S6 HNW HSW L6 X6 T5 V5 U5 P5 R5 S5 L5
  refine UntH.take (i := 11) (some 15) rfl rfl (by kernel_rfl) (by kernel_rfl) (by kernel_rfl) (by kernel_rfl) (fun _ _ _ _ h => h) (by rfl) S7.out ?_
  apply Exists.intro
  refine ⟨fun w' hw' => ?_, ?_⟩
  · obtain ⟨q1, q2, q3, q4⟩ := hw'
    go_simp
    first | done | rfl
  refine UntH.take (i := 12) (some 16) rfl rfl (by kernel_rfl) (by kernel_rfl) (by kernel_rfl) (by kernel_rfl) (fun _ _ _ _ h => h) (by rfl) S7.out ?_
  apply Exists.intro
  refine ⟨fun w' hw' => ?_, ?_⟩
  · obtain ⟨q1, q2, q3, q4⟩ := hw'
    go_simp
    first | done | rfl
  have c7 := S7.out.2.1
  have f7 := frozen_of_row w6 cp 4 _ _ B7.out
  refine UntH.last (by kernel_rfl) rfl (by kernel_rfl) (by kernel_rfl) (fun K hK => ?_)
  go_simp
  refine hK _ _ ?_
  clear hK K c7 f7
  have K8 : Hid (Kept (fun k => k = cp) w6 (w6.setCell ⟨cp, 4, none⟩ (.slice (some ⟨g6, 0, none⟩) (c.sp.length + 1) cap6))) := Kept.setCell (F := fun k => k = cp) (p := ⟨cp, 4, none⟩) (Kept.refl _ _) rfl _
  have B8 : Hid ((w6.setCell ⟨cp, 4, none⟩ (.slice (some ⟨g6, 0, none⟩) (c.sp.length + 1) cap6)).heap[cp]? = some (.cells #[.int .i64 c.k, .string ⟨c.nm.toArray⟩, .string ⟨c.tx.toArray⟩, v3, .slice (some ⟨g6, 0, none⟩) (c.sp.length + 1) cap6, v5, .slice none 0 0, .int .i64 c.p] 60 (0, 0))) := by
    have := block_setCell' B7.out 4 (.slice (some ⟨g6, 0, none⟩) (c.sp.length + 1) cap6)
    simpa [Hid] using this
  go_wp2
  go_end0
  have ow : ∀ {e : TypeId} {size n : Nat} {v : Value} {xs : List Value}, w6.ownsRow base e size v n xs → e ≠ 60 → (w6.setCell ⟨cp, 4, none⟩ (.slice (some ⟨g6, 0, none⟩) (c.sp.length + 1) cap6)).ownsRow base e size v n xs := fun ho he => own_other ho K8.out (fun k hk => by have hk : k = cp := hk; subst hk; exact ⟨_, 60, _, B7.out, fun e => he e.symm⟩)
  refine ⟨rfl, ⟨_, B8.out, ow O7.out.2.1 (by decide), ow O7.out.1 (by decide), ow O7.out.2.2 (by decide), HKD.out, HBS.out⟩, R7.out.kept K8.out (fun e => block_ne R7.out.blk B7.out (by decide) e) (fun e => ?_), L7.out.trans (LfK.of_cp B7.out HBS.out K8.out)⟩
  obtain ⟨cs2, h7⟩ := own_ty R7.out.row g rfl
  exact block_ne h7 B7.out (by decide) e
set_option maxRecDepth 100000 in
set_option maxHeartbeats 2000000 in
theorem addS_bad {w : World} {base cp vp rv rbase rp g cap : Nat} {Ts : List Tk} {i : Nat} {c : CT} {v3 v4 v5 : Value} (t : Tk) (hp : PoR Ts t.n i = none) (hT : TcA w base cp c v3 v4 v5) (hv : w.heap[vp]? = some (.cells #[.pointer (some ⟨cp, 0, none⟩)] 177 (0, 0))) (hrv : w.heap[rv]? = some (.cells #[.pointer (some ⟨rp, 0, none⟩)] 102 (0, 0))) (hn : c.sp.length ≤ 64) (hR : RdA w rbase rp g cap Ts i) :
    Calls Tryz.prog 179 #[.agg (tkV t), .pointer (some ⟨vp, 0, none⟩), .pointer (some ⟨rv, 0, none⟩)] w fun e w' => e = pan 90 (tok Ts (i + 1)).p ∧ LfK base rp w w' := by
  obtain ⟨ie, hie, hz0, hz1, hz2⟩ := info_parts Tryz.info68n
  obtain ⟨av, cv, hvv, _⟩ := own_shape hT.o4
  subst hvv
  obtain ⟨W, hW⟩ : ∃ W, W = w.alloc (.cells #[.int .i64 t.k, .string ⟨t.t.toArray⟩, .int .i64 t.n, .int .i64 t.a, .int .i64 t.b, .int .i64 t.p] 49) := ⟨_, rfl⟩
  have XW := hide (show Below w.heap.size w W by rw [hW]; exact al (Below.refl _ _) _)
  have HP := hide (show W.heap[w.heap.size]? = some (.cells #[.int .i64 t.k, .string ⟨t.t.toArray⟩, .int .i64 t.n, .int .i64 t.a, .int .i64 t.b, .int .i64 t.p] 49 (0, 0)) by rw [hW]; exact heap_alloc_new w _)
  obtain ⟨P, hP⟩ : ∃ P, P = w.heap.size := ⟨_, rfl⟩
  rw [← hP] at HP
  have T1 := hide (hT.below XW.out)
  have V1 := hide ((XW.out.block vp (lt_of_block hv)).trans hv)
  have U1 := hide ((XW.out.block rv (lt_of_block hrv)).trans hrv)
  have R1 := hide (hR.below XW.out)
  have HN := hide hn
  have HPo := hide hp
  clear hT hv hR hn hrv hp
  unfold tkV
  go_enter Tryz.func179, Tryz.ntmps179
  go_upto_region 1 with fail
  rw [← hW, ← hP]
  clear hW hP
  refine wp_unt (S := fun V => V.cell? ⟨vp, 0, none⟩ = some (.pointer (some ⟨cp, 0, none⟩)) ∧ V.cell? ⟨cp, 4, none⟩ = some (.slice av c.sp.length cv) ∧ V.cell? ⟨P, 2, none⟩ = some (.int .i64 t.n) ∧ V.cell? ⟨rv, 0, none⟩ = some (.pointer (some ⟨rp, 0, none⟩))) 13 (by kernel_rfl) ?_
  have HS0 : Hid (Below W.heap.size W W.drew) := (Below.refl _ _).drew
  have T2 := hide (T1.out.below HS0.out)
  have V2 := hide ((HS0.out.block vp (lt_of_block V1.out)).trans V1.out)
  have U2 := hide ((HS0.out.block rv (lt_of_block U1.out)).trans U1.out)
  have P2 := hide ((HS0.out.block P (lt_of_block HP.out)).trans HP.out)
  have R2 := hide (R1.out.below HS0.out)
  have X2 := hide (bt XW.out HS0.out (Nat.le_refl _))
  clear HS0 T1 V1 U1 HP R1 XW
  generalize W.drew = wd at *
  have SF : Hid (∀ V : World, V.heap[vp]? = some (.cells #[.pointer (some ⟨cp, 0, none⟩)] 177 (0, 0)) → V.heap[cp]? = wd.heap[cp]? → V.heap[P]? = some (.cells #[.int .i64 t.k, .string ⟨t.t.toArray⟩, .int .i64 t.n, .int .i64 t.a, .int .i64 t.b, .int .i64 t.p] 49 (0, 0)) → V.heap[rv]? = some (.cells #[.pointer (some ⟨rp, 0, none⟩)] 102 (0, 0)) → V.cell? ⟨vp, 0, none⟩ = some (.pointer (some ⟨cp, 0, none⟩)) ∧ V.cell? ⟨cp, 4, none⟩ = some (.slice av c.sp.length cv) ∧ V.cell? ⟨P, 2, none⟩ = some (.int .i64 t.n) ∧ V.cell? ⟨rv, 0, none⟩ = some (.pointer (some ⟨rp, 0, none⟩))) := fun V h1 h2 h3 h4 => by
    have h2 := h2.trans T2.out.blk
    exact ⟨by rw [cell_of_row _ _ _ _ _ _ h1]; rfl, by rw [cell_of_row _ _ _ _ _ _ h2]; rfl, by rw [cell_of_row _ _ _ _ _ _ h3]; rfl, by rw [cell_of_row _ _ _ _ _ _ h4]; rfl⟩
  have S2 := hide (SF.out wd V2.out rfl P2.out U2.out)
  refine UntH.take (i := 0) (some 4) rfl rfl (by kernel_rfl) (by kernel_rfl) (by kernel_rfl) (by kernel_rfl) (fun _ _ _ _ h => h) (by rfl) S2.out ?_
  apply Exists.intro
  refine ⟨fun w' hw' => ?_, ?_⟩
  · obtain ⟨q1, q2, q3, q4⟩ := hw'
    go_simp
    first | done | rfl
  try simp only [Act.put, List.setIfInBounds_toArray, List.set_cons_zero, List.set_cons_succ]
  refine UntH.take (i := 1) (some 5) rfl rfl (by kernel_rfl) (by kernel_rfl) (by kernel_rfl) (by kernel_rfl) (fun _ _ _ _ h => h) (by rfl) S2.out ?_
  apply Exists.intro
  refine ⟨fun w' hw' => ?_, ?_⟩
  · obtain ⟨q1, q2, q3, q4⟩ := hw'
    go_simp
    first | done | rfl
  try simp only [Act.put, List.setIfInBounds_toArray, List.set_cons_zero, List.set_cons_succ]
  refine UntH.take (i := 2) (some 6) rfl rfl (by kernel_rfl) (by kernel_rfl) (by kernel_rfl) (by kernel_rfl) (fun _ _ _ _ h => h) (by rfl) S2.out ?_
  apply Exists.intro
  refine ⟨fun w' hw' => ?_, ?_⟩
  · obtain ⟨q1, q2, q3, q4⟩ := hw'
    go_simp
    first | done | rfl
  try simp only [Act.put, List.setIfInBounds_toArray, List.set_cons_zero, List.set_cons_succ]
  refine UntH.take (i := 3) (some 7) rfl rfl (by kernel_rfl) (by kernel_rfl) (by kernel_rfl) (by kernel_rfl) (fun _ _ _ _ h => h) (by rfl) S2.out ?_
  apply Exists.intro
  refine ⟨fun w' hw' => ?_, ?_⟩
  · obtain ⟨q1, q2, q3, q4⟩ := hw'
    go_simp
    first | done | rfl
  try simp only [Act.put, List.setIfInBounds_toArray, List.set_cons_zero, List.set_cons_succ]
  refine UntH.take (i := 4) (some 8) rfl rfl (by kernel_rfl) (by kernel_rfl) (by kernel_rfl) (by kernel_rfl) (fun _ _ _ _ h => h) (by rfl) S2.out ?_
  apply Exists.intro
  refine ⟨fun w' hw' => ?_, ?_⟩
  · obtain ⟨q1, q2, q3, q4⟩ := hw'
    go_simp
    first | done | rfl
  try simp only [Act.put, List.setIfInBounds_toArray, List.set_cons_zero, List.set_cons_succ]
  refine UntH.take (i := 5) (some 9) rfl rfl (by kernel_rfl) (by kernel_rfl) (by kernel_rfl) (by kernel_rfl) (fun _ _ _ _ h => h) (by rfl) S2.out ?_
  apply Exists.intro
  refine ⟨fun w' hw' => ?_, ?_⟩
  · obtain ⟨q1, q2, q3, q4⟩ := hw'
    go_simp
    first | done | rfl
  try simp only [Act.put, List.setIfInBounds_toArray, List.set_cons_zero, List.set_cons_succ]
  refine UntH.take (i := 6) (some 10) rfl rfl (by kernel_rfl) (by kernel_rfl) (by kernel_rfl) (by kernel_rfl) (fun _ _ _ _ h => h) (by rfl) S2.out ?_
  apply Exists.intro
  refine ⟨fun w' hw' => ?_, ?_⟩
  · obtain ⟨q1, q2, q3, q4⟩ := hw'
    go_simp
    first | done | rfl
  try simp only [Act.put, List.setIfInBounds_toArray, List.set_cons_zero, List.set_cons_succ]
  refine UntH.take (i := 7) (some 11) rfl rfl (by kernel_rfl) (by kernel_rfl) (by kernel_rfl) (by kernel_rfl) (fun _ _ _ _ h => h) (by rfl) S2.out ?_
  apply Exists.intro
  refine ⟨fun w' hw' => ?_, ?_⟩
  · obtain ⟨q1, q2, q3, q4⟩ := hw'
    go_simp
    first | done | rfl
  try simp only [Act.put, List.setIfInBounds_toArray, List.set_cons_zero, List.set_cons_succ]
  have HPT := hide (ports_none R2.out HPo.out)
  refine UntH.step (i := 8) (by kernel_rfl) rfl (fun K hK => ?_)
  go_simp
  refine HPT.out.mono ?_
  rintro e w5 ⟨he, k5⟩
  unfold pan at he
  subst he
  exact ⟨rfl, rfl, (LfK.of_below X2.out).trans (LfK.of_rp k5)⟩
end Go.Proofs.YtlmhofjiobmodaaGreatDoor
