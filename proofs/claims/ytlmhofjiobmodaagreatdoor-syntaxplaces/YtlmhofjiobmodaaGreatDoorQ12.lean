/-
  A test that is being read; what each part of its list adds. Condition: the list is short.
-/
import Derived.Test.YtlmhofjiobmodaaGreatDoorQ09
import Derived.Deep.AppendLies
namespace Go.Proofs.YtlmhofjiobmodaaGreatDoor
open Go.RowKit Go.Lib

def addP (Ts : List Tk) (kind : Int) (c : CT) (t : Tk) (j : Nat) : PR CT :=
  if kind = 5 then .ok (.mk c.k c.nm c.tx (c.pre ++ [(t.a, t.b)]) c.sp c.ns c.kids c.p) j
  else if kind = 4 then
    if isT Ts 7 [45] j = true then (takeP Ts 4 (j + 1)).bind fun u l => .ok (.mk c.k c.nm c.tx c.pre (c.sp ++ [(t.n, u.n)]) c.ns c.kids c.p) l
    else .ok (.mk c.k c.nm c.tx c.pre (c.sp ++ [(t.n, t.n)]) c.ns c.kids c.p) j
  else .ok (.mk c.k c.nm c.tx c.pre c.sp (c.ns ++ [t.t]) c.kids c.p) j
theorem partP_add (Ts : List Tk) (kind : Int) (c : CT) (i : Nat) : partP Ts kind c i = (takeP Ts kind i).bind fun t j => addP Ts kind c t j := rfl
/-- A test in a variable. -/
structure TcA (w : World) (base cp : Nat) (c : CT) (v3 v4 v5 : Value) : Prop where
  blk : w.heap[cp]? = some (.cells #[.int .i64 c.k, .string ⟨c.nm.toArray⟩, .string ⟨c.tx.toArray⟩, v3, v4, v5, .slice none 0 0, .int .i64 c.p] 60 (0, 0))
  o3 : w.ownsRow base 47 2 v3 c.pre.length (prC c.pre)
  o4 : w.ownsRow base 68 2 v4 c.sp.length (prC c.sp)
  o5 : w.ownsRow base 9 1 v5 c.ns.length (nsC c.ns)
  kids : c.kids = []
  bas : base ≤ cp
/-- What reading a test may write into. -/
def LfF (base rp : Nat) (w : World) (k : Nat) : Prop := k = rp ∨ (base ≤ k ∧ ∃ cs t f, w.heap[k]? = some (.cells cs t f) ∧ (t = 60 ∨ t = 47 ∨ t = 68 ∨ t = 9))
def LfK (base rp : Nat) (w w' : World) : Prop := Kept (LfF base rp w) w w'
theorem LfK.refl (base rp : Nat) (w : World) : LfK base rp w w := Kept.refl _ _
theorem LfK.trans {base rp : Nat} {a b c : World} (h : LfK base rp a b) (k : LfK base rp b c) : LfK base rp a c := Kept.trans_new h k (fun i hi hf => by
  rcases hf with e | ⟨h1, cs, t, f, h2, h3⟩
  · exact .inl e
  · by_cases hF : LfF base rp a i
    · exact hF
    · exact .inr ⟨h1, cs, t, f, (h.block i hi hF).symm.trans h2, h3⟩)
theorem LfK.of_below {base rp : Nat} {a b : World} (h : Below a.heap.size a b) : LfK base rp a b := Kept.of_below h
theorem LfK.of_rp {base rp : Nat} {a b : World} (h : Kept (fun k => k = rp) a b) : LfK base rp a b := h.mono (fun _ h => .inl h)
theorem LfK.of_own {base rp : Nat} {a b : World} {size n : Nat} {e : TypeId} {v : Value} {xs : List Value} (ho : a.ownsRow base e size v n xs) (he : e = 60 ∨ e = 47 ∨ e = 68 ∨ e = 9) (h : Kept (fun k => v.ownBlock = some k) a b) : LfK base rp a b := h.mono (fun k hk => .inr (by
  obtain ⟨cs, h1⟩ := own_ty ho k hk
  exact ⟨(World.ownsRow.lt ho k hk).1, cs, e, _, h1, he⟩))
theorem LfK.of_cp {base rp cp : Nat} {a b : World} {cs : Array Value} {f : Nat × Nat} (hc : a.heap[cp]? = some (.cells cs 60 f)) (hb : base ≤ cp) (h : Kept (fun k => k = cp) a b) : LfK base rp a b := h.mono (fun k hk => .inr ⟨by rw [hk]; exact hb, cs, 60, f, by rw [hk]; exact hc, .inl rfl⟩)
theorem LfK.keep {base rp : Nat} {a b : World} (h : LfK base rp a b) {k : Nat} {cs : Array Value} {t : TypeId} {f : Nat × Nat} (hk : a.heap[k]? = some (.cells cs t f)) (hr : k ≠ rp) (ht : t ≠ 60 ∧ t ≠ 47 ∧ t ≠ 68 ∧ t ≠ 9) : b.heap[k]? = some (.cells cs t f) :=
  (h.block k (lt_of_block hk) (fun hf => by
    rcases hf with e | ⟨_, cs', t', f', h2, h3⟩
    · exact hr e
    · rw [hk] at h2
      simp at h2
      rw [← h2.2.1] at h3
      rcases h3 with h3 | h3 | h3 | h3
      · exact ht.1 h3
      · exact ht.2.1 h3
      · exact ht.2.2.1 h3
      · exact ht.2.2.2 h3)).trans hk
theorem LfK.rp {base rp : Nat} {a b : World} (h : LfK base rp a b) (hb : a.heap.size ≤ base) : Kept (fun k => k = rp) a b :=
  ⟨h.os, h.tape, h.output, h.size, fun k hk hf => h.block k hk (fun hF => by
    rcases hF with e | ⟨h1, _⟩
    · exact hf e
    · omega)⟩
theorem TcA.below {w w' : World} {base cp : Nat} {c : CT} {v3 v4 v5 : Value} (h : TcA w base cp c v3 v4 v5) (x : Below w.heap.size w w') : TcA w' base cp c v3 v4 v5 :=
  ⟨(x.block cp (lt_of_block h.blk)).trans h.blk, own_below h.o3 x, own_below h.o4 x, own_below h.o5 x, h.kids, h.bas⟩
theorem TcA.rp {w w' : World} {base cp rp : Nat} {c : CT} {v3 v4 v5 : Value} {cs : Array Value} {f : Nat × Nat} (h : TcA w base cp c v3 v4 v5) (hk : Kept (fun k => k = rp) w w') (hr : w.heap[rp]? = some (.cells cs 73 f)) : TcA w' base cp c v3 v4 v5 := by
  have ow : ∀ {e : TypeId} {size n : Nat} {v : Value} {xs : List Value}, w.ownsRow base e size v n xs → e ≠ 73 → w'.ownsRow base e size v n xs := fun ho he => own_kept ho hk (fun k h1 h2 => by
    subst h2
    obtain ⟨cs', h3⟩ := own_ty ho k h1
    rw [hr] at h3
    simp at h3
    exact he h3.2.1.symm)
  exact ⟨(hk.block cp (lt_of_block h.blk) (fun e => by subst e; have := h.blk; rw [hr] at this; simp at this)).trans h.blk, ow h.o3 (by decide), ow h.o4 (by decide), ow h.o5 (by decide), h.kids, h.bas⟩
theorem block_ne {w : World} {a b : Nat} {cs cs' : Array Value} {t t' : TypeId} {f f' : Nat × Nat} (h1 : w.heap[a]? = some (.cells cs t f)) (h2 : w.heap[b]? = some (.cells cs' t' f')) (h : t ≠ t') : a ≠ b := fun e => by
  subst e
  rw [h1] at h2
  simp at h2
  exact h h2.2.1
theorem own_other {w w' : World} {F : Nat → Prop} {base size n : Nat} {e : TypeId} {v : Value} {xs : List Value} (h : w.ownsRow base e size v n xs) (hk : Kept F w w') (hF : ∀ k, F k → ∃ cs t f, w.heap[k]? = some (.cells cs t f) ∧ t ≠ e) : w'.ownsRow base e size v n xs :=
  own_kept h hk (fun k h3 h4 => by
    obtain ⟨cs, t, f, h5, h6⟩ := hF k h4
    obtain ⟨cs', h7⟩ := own_ty h k h3
    rw [h7] at h5
    simp at h5
    exact h6 h5.2.1.symm)
theorem Tryz.info47n : (Tryz.prog.info? 47).map (fun i => (i.zero, i.size, i.bytes)) = some (some (.agg #[.int .i64 0, .int .i64 0]), 2, 16) := by kernel_rfl
theorem Tryz.info68n : (Tryz.prog.info? 68).map (fun i => (i.zero, i.size, i.bytes)) = some (some (.agg #[.int .i64 0, .int .i64 0]), 2, 16) := by kernel_rfl
theorem Tryz.info9n : (Tryz.prog.info? 9).map (fun i => (i.zero, i.size, i.bytes)) = some (some (.string ⟨#[]⟩), 1, 16) := by kernel_rfl
set_option maxRecDepth 100000 in
set_option maxHeartbeats 2000000 in
theorem addA_any {w : World} {base cp vp rbase rp g cap : Nat} {Ts : List Tk} {i : Nat} {c : CT} {v3 v4 v5 : Value} (t : Tk) (hT : TcA w base cp c v3 v4 v5) (hv : w.heap[vp]? = some (.cells #[.pointer (some ⟨cp, 0, none⟩)] 177 (0, 0))) (hn : c.pre.length ≤ 64) (hR : RdA w rbase rp g cap Ts i) :
    Calls Tryz.prog 178 #[.agg (tkV t), .pointer (some ⟨vp, 0, none⟩)] w fun e w' => e = .returned (.tuple #[]) ∧ (∃ v3', TcA w' base cp (.mk c.k c.nm c.tx (c.pre ++ [(t.a, t.b)]) c.sp c.ns c.kids c.p) v3' v4 v5) ∧ RdA w' rbase rp g cap Ts i ∧ LfK base rp w w' := by
  obtain ⟨ie, hie, hz0, hz1, hz2⟩ := info_parts Tryz.info47n
  obtain ⟨av, cv, hvv, _⟩ := own_shape hT.o3
  subst hvv
  obtain ⟨W, hW⟩ : ∃ W, W = w.alloc (.cells #[.int .i64 t.k, .string ⟨t.t.toArray⟩, .int .i64 t.n, .int .i64 t.a, .int .i64 t.b, .int .i64 t.p] 49) := ⟨_, rfl⟩
  have XW := hide (show Below w.heap.size w W by rw [hW]; exact al (Below.refl _ _) _)
  have HP := hide (show W.heap[w.heap.size]? = some (.cells #[.int .i64 t.k, .string ⟨t.t.toArray⟩, .int .i64 t.n, .int .i64 t.a, .int .i64 t.b, .int .i64 t.p] 49 (0, 0)) by rw [hW]; exact heap_alloc_new w _)
  obtain ⟨P, hP⟩ : ∃ P, P = w.heap.size := ⟨_, rfl⟩
  rw [← hP] at HP
  have T1 := hide (hT.below XW.out)
  have V1 := hide ((XW.out.block vp (lt_of_block hv)).trans hv)
  have R1 := hide (hR.below XW.out)
  have HN := hide hn
  clear hT hv hR hn
  unfold tkV
  go_enter Tryz.func178, Tryz.ntmps178
  go_upto_region 1 with fail
  rw [← hW, ← hP]
  clear hW hP
  refine wp_unt (S := fun V => V.cell? ⟨vp, 0, none⟩ = some (.pointer (some ⟨cp, 0, none⟩)) ∧ V.cell? ⟨cp, 3, none⟩ = some (.slice av c.pre.length cv) ∧ V.cell? ⟨P, 3, none⟩ = some (.int .i64 t.a) ∧ V.cell? ⟨P, 4, none⟩ = some (.int .i64 t.b)) 11 (by kernel_rfl) ?_
  have HS0 : Hid (Below W.heap.size W W.drew) := (Below.refl _ _).drew
  have T2 := hide (T1.out.below HS0.out)
  have V2 := hide ((HS0.out.block vp (lt_of_block V1.out)).trans V1.out)
  have P2 := hide ((HS0.out.block P (lt_of_block HP.out)).trans HP.out)
  have R2 := hide (R1.out.below HS0.out)
  have X2 := hide (bt XW.out HS0.out (Nat.le_refl _))
  clear HS0 T1 V1 HP R1 XW
  generalize W.drew = wd at *
  have SF : Hid (∀ V : World, V.heap[vp]? = some (.cells #[.pointer (some ⟨cp, 0, none⟩)] 177 (0, 0)) → V.heap[cp]? = wd.heap[cp]? → V.heap[P]? = some (.cells #[.int .i64 t.k, .string ⟨t.t.toArray⟩, .int .i64 t.n, .int .i64 t.a, .int .i64 t.b, .int .i64 t.p] 49 (0, 0)) → V.cell? ⟨vp, 0, none⟩ = some (.pointer (some ⟨cp, 0, none⟩)) ∧ V.cell? ⟨cp, 3, none⟩ = some (.slice av c.pre.length cv) ∧ V.cell? ⟨P, 3, none⟩ = some (.int .i64 t.a) ∧ V.cell? ⟨P, 4, none⟩ = some (.int .i64 t.b)) := fun V h1 h2 h3 => by
    have h2 := h2.trans T2.out.blk
    exact ⟨by rw [cell_of_row _ _ _ _ _ _ h1]; rfl, by rw [cell_of_row _ _ _ _ _ _ h2]; rfl, by rw [cell_of_row _ _ _ _ _ _ h3]; rfl, by rw [cell_of_row _ _ _ _ _ _ h3]; rfl⟩
  have S2 := hide (SF.out wd V2.out rfl P2.out)
  refine UntH.take (i := 0) (some 3) rfl rfl (by kernel_rfl) (by kernel_rfl) (by kernel_rfl) (by kernel_rfl) (fun _ _ _ _ h => h) (by rfl) S2.out ?_
  apply Exists.intro
  refine ⟨fun w' hw' => ?_, ?_⟩
  · obtain ⟨q1, q2, q3, q4⟩ := hw'
    go_simp
    first | done | rfl
  try simp only [Act.put, List.setIfInBounds_toArray, List.set_cons_zero, List.set_cons_succ]
  refine UntH.take (i := 1) (some 4) rfl rfl (by kernel_rfl) (by kernel_rfl) (by kernel_rfl) (by kernel_rfl) (fun _ _ _ _ h => h) (by rfl) S2.out ?_
  apply Exists.intro
  refine ⟨fun w' hw' => ?_, ?_⟩
  · obtain ⟨q1, q2, q3, q4⟩ := hw'
    go_simp
    first | done | rfl
  try simp only [Act.put, List.setIfInBounds_toArray, List.set_cons_zero, List.set_cons_succ]
  refine UntH.take (i := 2) (some 5) rfl rfl (by kernel_rfl) (by kernel_rfl) (by kernel_rfl) (by kernel_rfl) (fun _ _ _ _ h => h) (by rfl) S2.out ?_
  apply Exists.intro
  refine ⟨fun w' hw' => ?_, ?_⟩
  · obtain ⟨q1, q2, q3, q4⟩ := hw'
    go_simp
    first | done | rfl
  try simp only [Act.put, List.setIfInBounds_toArray, List.set_cons_zero, List.set_cons_succ]
  refine UntH.take (i := 3) (some 6) rfl rfl (by kernel_rfl) (by kernel_rfl) (by kernel_rfl) (by kernel_rfl) (fun _ _ _ _ h => h) (by rfl) S2.out ?_
  apply Exists.intro
  refine ⟨fun w' hw' => ?_, ?_⟩
  · obtain ⟨q1, q2, q3, q4⟩ := hw'
    go_simp
    first | done | rfl
  try simp only [Act.put, List.setIfInBounds_toArray, List.set_cons_zero, List.set_cons_succ]
  refine UntH.take (i := 4) (some 7) rfl rfl (by kernel_rfl) (by kernel_rfl) (by kernel_rfl) (by kernel_rfl) (fun _ _ _ _ h => h) (by rfl) S2.out ?_
  apply Exists.intro
  refine ⟨fun w' hw' => ?_, ?_⟩
  · obtain ⟨q1, q2, q3, q4⟩ := hw'
    go_simp
    first | done | rfl
  try simp only [Act.put, List.setIfInBounds_toArray, List.set_cons_zero, List.set_cons_succ]
  refine UntH.take (i := 5) (some 8) rfl rfl (by kernel_rfl) (by kernel_rfl) (by kernel_rfl) (by kernel_rfl) (fun _ _ _ _ h => h) (by rfl) S2.out ?_
  apply Exists.intro
  refine ⟨fun w' hw' => ?_, ?_⟩
  · obtain ⟨q1, q2, q3, q4⟩ := hw'
    go_simp
    first | done | rfl
  try simp only [Act.put, List.setIfInBounds_toArray, List.set_cons_zero, List.set_cons_succ]
  refine UntH.take (i := 6) (some 9) rfl rfl (by kernel_rfl) (by kernel_rfl) (by kernel_rfl) (by kernel_rfl) (fun _ _ _ _ h => h) (by rfl) S2.out ?_
  apply Exists.intro
  refine ⟨fun w' hw' => ?_, ?_⟩
  · obtain ⟨q1, q2, q3, q4⟩ := hw'
    go_simp
    first | done | rfl
  try simp only [Act.put, List.setIfInBounds_toArray, List.set_cons_zero, List.set_cons_succ]
  have X6 : Hid (Below wd.heap.size wd (wd.alloc (.cells #[.int .i64 t.a, .int .i64 t.b] 47))) := al (Below.refl _ _) _
  have T6 := hide (T2.out.below X6.out)
  have V6 := hide ((X6.out.block vp (lt_of_block V2.out)).trans V2.out)
  have P6 := hide ((X6.out.block P (lt_of_block P2.out)).trans P2.out)
  have R6 := hide (R2.out.below X6.out)
  have S6 := hide (SF.out _ V6.out (X6.out.block cp (lt_of_block T2.out.blk)) P6.out)
  have HNW := hide (World.news_of_block (heap_alloc_new wd (.cells #[.int .i64 t.a, .int .i64 t.b] 47)))
  have HSW : Hid (base ≤ (wd.alloc (.cells #[.int .i64 t.a, .int .i64 t.b] 47)).heap.size) := Nat.le_trans T6.out.bas (Nat.le_of_lt (lt_of_block T6.out.blk))
  have XW6 := hide (bt X2.out X6.out (Nat.le_refl _))
  refine UntH.step (i := 7) (by kernel_rfl) rfl (fun K hK => ?_)
  go_simp
  refine hK _ _ S6.out ?_
  clear hK K
  try simp only [Act.put, List.setIfInBounds_toArray, List.set_cons_zero, List.set_cons_succ]
  refine UntH.step (i := 8) (by kernel_rfl) rfl (fun K hK => ?_)
  refine step_append_lies _ (by rfl) (.tmp 7) (.tmp 10) 56 (by rfl) base 47 ie (.agg #[.int .i64 0, .int .i64 0]) 2 16 Tryz.underlying56 hie hz0 hz1 hz2 rfl (by decide) _ c.pre.length (prC c.pre) (by rfl) T6.out.o3 ⟨wd.heap.size, 0, none⟩ 1 1 [.int .i64 t.a, .int .i64 t.b] (by rfl) (by rfl) HNW.out (by simp [Value.oneCell']) (by decide) (by have := HN.out; unfold maxLen; omega) (by have := HN.out; omega) HSW.out _ rfl ?_
  intro g6 cap6 w6 h1 h2 h3 h4
  have KC : Hid (Kept (fun k => (Value.slice av c.pre.length cv).ownBlock = some k) (wd.alloc (.cells #[.int .i64 t.a, .int .i64 t.b] 47)) w6) := kept_of_grown h2
  have HC : Hid (∀ k, (Value.slice av c.pre.length cv).ownBlock = some k → ∃ cs ty f, (wd.alloc (.cells #[.int .i64 t.a, .int .i64 t.b] 47)).heap[k]? = some (.cells cs ty f) ∧ ty = 47) := fun k hk => by
    obtain ⟨cs, h5⟩ := own_ty T6.out.o3 k hk
    exact ⟨cs, 47, _, h5, rfl⟩
  have kb : ∀ (k : Nat) (cs : Array Value) (ty : TypeId) (f : Nat × Nat), (wd.alloc (.cells #[.int .i64 t.a, .int .i64 t.b] 47)).heap[k]? = some (.cells cs ty f) → ty ≠ 47 → w6.heap[k]? = some (.cells cs ty f) := fun k _ _ _ hk ht => (KC.out.block k (lt_of_block hk) (fun hf => by
    obtain ⟨cs', t', f', h5, h6⟩ := HC.out k hf
    rw [hk] at h5
    simp at h5
    exact ht (by rw [h5.2.1]; exact h6))).trans hk
  have B7 := hide (kb _ _ _ _ T6.out.blk (by decide))
  have V7 := hide (kb _ _ _ _ V6.out (by decide))
  have P7 := hide (kb _ _ _ _ P6.out (by decide))
  have R7 : Hid (RdA w6 rbase rp g cap Ts i) := R6.out.kept KC.out (fun hf => by obtain ⟨cs', t', f', h5, h6⟩ := HC.out _ hf; rw [R6.out.blk] at h5; simp at h5; rw [← h5.2.1] at h6; cases h6) (fun hf => by obtain ⟨cs', t', f', h5, h6⟩ := HC.out _ hf; obtain ⟨cs2, h7⟩ := own_ty R6.out.row g rfl; rw [h7] at h5; simp at h5; rw [← h5.2.1] at h6; cases h6)
  have ow : ∀ {e : TypeId} {size n : Nat} {v : Value} {xs : List Value}, (wd.alloc (.cells #[.int .i64 t.a, .int .i64 t.b] 47)).ownsRow base e size v n xs → e ≠ 47 → w6.ownsRow base e size v n xs := fun ho he => own_other ho KC.out (fun k hk => by obtain ⟨cs', t', f', h5, h6⟩ := HC.out k hk; exact ⟨cs', t', f', h5, by rw [h6]; exact fun e => he e.symm⟩)
  have L7 : Hid (LfK base rp w w6) := (LfK.of_below XW6.out).trans (LfK.of_own T6.out.o3 (by decide) KC.out)
  have S7 := hide (SF.out w6 V7.out (B7.out.trans T2.out.blk.symm) P7.out)
  have O7 : Hid (w6.ownsRow base 47 2 (.slice (some ⟨g6, 0, none⟩) (c.pre.length + 1) cap6) (c.pre ++ [(t.a, t.b)]).length (prC (c.pre ++ [(t.a, t.b)])) ∧ w6.ownsRow base 68 2 v4 c.sp.length (prC c.sp) ∧ w6.ownsRow base 9 1 v5 c.ns.length (nsC c.ns)) := ⟨by rw [List.length_append, prC_snoc]; exact h1, ow T6.out.o4 (by decide), ow T6.out.o5 (by decide)⟩
  have HKD := hide T6.out.kids
  have HBS := hide T6.out.bas
  refine hK _ _ S7.out ?_
  clear hK K h1 h2 h3 h4 kb ow KC HC T6 V6 P6 R6 S6 HNW HSW XW6 X6
  refine UntH.take (i := 9) (some 12) rfl rfl (by kernel_rfl) (by kernel_rfl) (by kernel_rfl) (by kernel_rfl) (fun _ _ _ _ h => h) (by rfl) S7.out ?_
  apply Exists.intro
  refine ⟨fun w' hw' => ?_, ?_⟩
  · obtain ⟨q1, q2, q3, q4⟩ := hw'
    go_simp
    first | done | rfl
  refine UntH.take (i := 10) (some 13) rfl rfl (by kernel_rfl) (by kernel_rfl) (by kernel_rfl) (by kernel_rfl) (fun _ _ _ _ h => h) (by rfl) S7.out ?_
  apply Exists.intro
  refine ⟨fun w' hw' => ?_, ?_⟩
  · obtain ⟨q1, q2, q3, q4⟩ := hw'
    go_simp
    first | done | rfl
  have c7 := S7.out.2.1
  have f7 := frozen_of_row w6 cp 3 _ _ B7.out
  refine UntH.last (by kernel_rfl) rfl (by kernel_rfl) (by kernel_rfl) (fun K hK => ?_)
  go_simp
  refine hK _ _ ?_
  clear hK K c7 f7
  have K8 : Hid (Kept (fun k => k = cp) w6 (w6.setCell ⟨cp, 3, none⟩ (.slice (some ⟨g6, 0, none⟩) (c.pre.length + 1) cap6))) := Kept.setCell (F := fun k => k = cp) (p := ⟨cp, 3, none⟩) (Kept.refl _ _) rfl _
  have B8 : Hid ((w6.setCell ⟨cp, 3, none⟩ (.slice (some ⟨g6, 0, none⟩) (c.pre.length + 1) cap6)).heap[cp]? = some (.cells #[.int .i64 c.k, .string ⟨c.nm.toArray⟩, .string ⟨c.tx.toArray⟩, .slice (some ⟨g6, 0, none⟩) (c.pre.length + 1) cap6, v4, v5, .slice none 0 0, .int .i64 c.p] 60 (0, 0))) := by
    have := block_setCell' B7.out 3 (.slice (some ⟨g6, 0, none⟩) (c.pre.length + 1) cap6)
    simpa [Hid] using this
  go_wp2
  go_end0
  have ow : ∀ {e : TypeId} {size n : Nat} {v : Value} {xs : List Value}, w6.ownsRow base e size v n xs → e ≠ 60 → (w6.setCell ⟨cp, 3, none⟩ (.slice (some ⟨g6, 0, none⟩) (c.pre.length + 1) cap6)).ownsRow base e size v n xs := fun ho he => own_other ho K8.out (fun k hk => by have hk : k = cp := hk; subst hk; exact ⟨_, 60, _, B7.out, fun e => he e.symm⟩)
  refine ⟨rfl, ⟨_, B8.out, ow O7.out.1 (by decide), ow O7.out.2.1 (by decide), ow O7.out.2.2 (by decide), HKD.out, HBS.out⟩, R7.out.kept K8.out (fun e => block_ne R7.out.blk B7.out (by decide) e) (fun e => ?_), L7.out.trans (LfK.of_cp B7.out HBS.out K8.out)⟩
  obtain ⟨cs2, h7⟩ := own_ty R7.out.row g rfl
  exact block_ne h7 B7.out (by decide) e
set_option maxRecDepth 100000 in
set_option maxHeartbeats 2000000 in
theorem addM_any {w : World} {base cp vp rbase rp g cap : Nat} {Ts : List Tk} {i : Nat} {c : CT} {v3 v4 v5 : Value} (t : Tk) (hT : TcA w base cp c v3 v4 v5) (hv : w.heap[vp]? = some (.cells #[.pointer (some ⟨cp, 0, none⟩)] 177 (0, 0))) (hn : c.ns.length ≤ 64) (hR : RdA w rbase rp g cap Ts i) :
    Calls Tryz.prog 181 #[.agg (tkV t), .pointer (some ⟨vp, 0, none⟩)] w fun e w' => e = .returned (.tuple #[]) ∧ (∃ v5', TcA w' base cp (.mk c.k c.nm c.tx c.pre c.sp (c.ns ++ [t.t]) c.kids c.p) v3 v4 v5') ∧ RdA w' rbase rp g cap Ts i ∧ LfK base rp w w' := by
  obtain ⟨ie, hie, hz0, hz1, hz2⟩ := info_parts Tryz.info9n
  obtain ⟨av, cv, hvv, _⟩ := own_shape hT.o5
  subst hvv
  obtain ⟨W, hW⟩ : ∃ W, W = w.alloc (.cells #[.int .i64 t.k, .string ⟨t.t.toArray⟩, .int .i64 t.n, .int .i64 t.a, .int .i64 t.b, .int .i64 t.p] 49) := ⟨_, rfl⟩
  have XW := hide (show Below w.heap.size w W by rw [hW]; exact al (Below.refl _ _) _)
  have HP := hide (show W.heap[w.heap.size]? = some (.cells #[.int .i64 t.k, .string ⟨t.t.toArray⟩, .int .i64 t.n, .int .i64 t.a, .int .i64 t.b, .int .i64 t.p] 49 (0, 0)) by rw [hW]; exact heap_alloc_new w _)
  obtain ⟨P, hP⟩ : ∃ P, P = w.heap.size := ⟨_, rfl⟩
  rw [← hP] at HP
  have T1 := hide (hT.below XW.out)
  have V1 := hide ((XW.out.block vp (lt_of_block hv)).trans hv)
  have R1 := hide (hR.below XW.out)
  have HN := hide hn
  clear hT hv hR hn
  unfold tkV
  go_enter Tryz.func181, Tryz.ntmps181
  go_upto_region 1 with fail
  rw [← hW, ← hP]
  clear hW hP
  refine wp_unt (S := fun V => V.cell? ⟨vp, 0, none⟩ = some (.pointer (some ⟨cp, 0, none⟩)) ∧ V.cell? ⟨cp, 5, none⟩ = some (.slice av c.ns.length cv) ∧ V.cell? ⟨P, 1, none⟩ = some (.string ⟨t.t.toArray⟩) ∧ V.cell? ⟨P, 1, none⟩ = some (.string ⟨t.t.toArray⟩)) 11 (by kernel_rfl) ?_
  have HS0 : Hid (Below W.heap.size W W.drew) := (Below.refl _ _).drew
  have T2 := hide (T1.out.below HS0.out)
  have V2 := hide ((HS0.out.block vp (lt_of_block V1.out)).trans V1.out)
  have P2 := hide ((HS0.out.block P (lt_of_block HP.out)).trans HP.out)
  have R2 := hide (R1.out.below HS0.out)
  have X2 := hide (bt XW.out HS0.out (Nat.le_refl _))
  clear HS0 T1 V1 HP R1 XW
  generalize W.drew = wd at *
  have SF : Hid (∀ V : World, V.heap[vp]? = some (.cells #[.pointer (some ⟨cp, 0, none⟩)] 177 (0, 0)) → V.heap[cp]? = wd.heap[cp]? → V.heap[P]? = some (.cells #[.int .i64 t.k, .string ⟨t.t.toArray⟩, .int .i64 t.n, .int .i64 t.a, .int .i64 t.b, .int .i64 t.p] 49 (0, 0)) → V.cell? ⟨vp, 0, none⟩ = some (.pointer (some ⟨cp, 0, none⟩)) ∧ V.cell? ⟨cp, 5, none⟩ = some (.slice av c.ns.length cv) ∧ V.cell? ⟨P, 1, none⟩ = some (.string ⟨t.t.toArray⟩) ∧ V.cell? ⟨P, 1, none⟩ = some (.string ⟨t.t.toArray⟩)) := fun V h1 h2 h3 => by
    have h2 := h2.trans T2.out.blk
    exact ⟨by rw [cell_of_row _ _ _ _ _ _ h1]; rfl, by rw [cell_of_row _ _ _ _ _ _ h2]; rfl, by rw [cell_of_row _ _ _ _ _ _ h3]; rfl, by rw [cell_of_row _ _ _ _ _ _ h3]; rfl⟩
  have S2 := hide (SF.out wd V2.out rfl P2.out)
  refine UntH.take (i := 0) (some 3) rfl rfl (by kernel_rfl) (by kernel_rfl) (by kernel_rfl) (by kernel_rfl) (fun _ _ _ _ h => h) (by rfl) S2.out ?_
  apply Exists.intro
  refine ⟨fun w' hw' => ?_, ?_⟩
  · obtain ⟨q1, q2, q3, q4⟩ := hw'
    go_simp
    first | done | rfl
  try simp only [Act.put, List.setIfInBounds_toArray, List.set_cons_zero, List.set_cons_succ]
  refine UntH.take (i := 1) (some 4) rfl rfl (by kernel_rfl) (by kernel_rfl) (by kernel_rfl) (by kernel_rfl) (fun _ _ _ _ h => h) (by rfl) S2.out ?_
  apply Exists.intro
  refine ⟨fun w' hw' => ?_, ?_⟩
  · obtain ⟨q1, q2, q3, q4⟩ := hw'
    go_simp
    first | done | rfl
  try simp only [Act.put, List.setIfInBounds_toArray, List.set_cons_zero, List.set_cons_succ]
  refine UntH.take (i := 2) (some 5) rfl rfl (by kernel_rfl) (by kernel_rfl) (by kernel_rfl) (by kernel_rfl) (fun _ _ _ _ h => h) (by rfl) S2.out ?_
  apply Exists.intro
  refine ⟨fun w' hw' => ?_, ?_⟩
  · obtain ⟨q1, q2, q3, q4⟩ := hw'
    go_simp
    first | done | rfl
  try simp only [Act.put, List.setIfInBounds_toArray, List.set_cons_zero, List.set_cons_succ]
  refine UntH.take (i := 3) (some 6) rfl rfl (by kernel_rfl) (by kernel_rfl) (by kernel_rfl) (by kernel_rfl) (fun _ _ _ _ h => h) (by rfl) S2.out ?_
  apply Exists.intro
  refine ⟨fun w' hw' => ?_, ?_⟩
  · obtain ⟨q1, q2, q3, q4⟩ := hw'
    go_simp
    first | done | rfl
  try simp only [Act.put, List.setIfInBounds_toArray, List.set_cons_zero, List.set_cons_succ]
  refine UntH.take (i := 4) (some 7) rfl rfl (by kernel_rfl) (by kernel_rfl) (by kernel_rfl) (by kernel_rfl) (fun _ _ _ _ h => h) (by rfl) S2.out ?_
  apply Exists.intro
  refine ⟨fun w' hw' => ?_, ?_⟩
  · obtain ⟨q1, q2, q3, q4⟩ := hw'
    go_simp
    first | done | rfl
  try simp only [Act.put, List.setIfInBounds_toArray, List.set_cons_zero, List.set_cons_succ]
  refine UntH.take (i := 5) (some 8) rfl rfl (by kernel_rfl) (by kernel_rfl) (by kernel_rfl) (by kernel_rfl) (fun _ _ _ _ h => h) (by rfl) S2.out ?_
  apply Exists.intro
  refine ⟨fun w' hw' => ?_, ?_⟩
  · obtain ⟨q1, q2, q3, q4⟩ := hw'
    go_simp
    first | done | rfl
  try simp only [Act.put, List.setIfInBounds_toArray, List.set_cons_zero, List.set_cons_succ]
  refine UntH.take (i := 6) (some 9) rfl rfl (by kernel_rfl) (by kernel_rfl) (by kernel_rfl) (by kernel_rfl) (fun _ _ _ _ h => h) (by rfl) S2.out ?_
  apply Exists.intro
  refine ⟨fun w' hw' => ?_, ?_⟩
  · obtain ⟨q1, q2, q3, q4⟩ := hw'
    go_simp
    first | done | rfl
  try simp only [Act.put, List.setIfInBounds_toArray, List.set_cons_zero, List.set_cons_succ]
  have X6 : Hid (Below wd.heap.size wd (wd.alloc (.cells #[.string ⟨t.t.toArray⟩] 9))) := al (Below.refl _ _) _
  have T6 := hide (T2.out.below X6.out)
  have V6 := hide ((X6.out.block vp (lt_of_block V2.out)).trans V2.out)
  have P6 := hide ((X6.out.block P (lt_of_block P2.out)).trans P2.out)
  have R6 := hide (R2.out.below X6.out)
  have S6 := hide (SF.out _ V6.out (X6.out.block cp (lt_of_block T2.out.blk)) P6.out)
  have HNW := hide (World.news_of_block (heap_alloc_new wd (.cells #[.string ⟨t.t.toArray⟩] 9)))
  have HSW : Hid (base ≤ (wd.alloc (.cells #[.string ⟨t.t.toArray⟩] 9)).heap.size) := Nat.le_trans T6.out.bas (Nat.le_of_lt (lt_of_block T6.out.blk))
  have XW6 := hide (bt X2.out X6.out (Nat.le_refl _))
  refine UntH.step (i := 7) (by kernel_rfl) rfl (fun K hK => ?_)
  go_simp
  refine hK _ _ S6.out ?_
  clear hK K
  try simp only [Act.put, List.setIfInBounds_toArray, List.set_cons_zero, List.set_cons_succ]
  refine UntH.step (i := 8) (by kernel_rfl) rfl (fun K hK => ?_)
  refine step_append_lies _ (by rfl) (.tmp 7) (.tmp 10) 25 (by rfl) base 9 ie (.string ⟨#[]⟩) 1 16 Tryz.underlying25 hie hz0 hz1 hz2 rfl (by decide) _ c.ns.length (nsC c.ns) (by rfl) T6.out.o5 ⟨wd.heap.size, 0, none⟩ 1 1 [.string ⟨t.t.toArray⟩] (by rfl) (by rfl) HNW.out (by simp [Value.oneCell']) (by decide) (by have := HN.out; unfold maxLen; omega) (by have := HN.out; omega) HSW.out _ rfl ?_
  intro g6 cap6 w6 h1 h2 h3 h4
  have KC : Hid (Kept (fun k => (Value.slice av c.ns.length cv).ownBlock = some k) (wd.alloc (.cells #[.string ⟨t.t.toArray⟩] 9)) w6) := kept_of_grown h2
  have HC : Hid (∀ k, (Value.slice av c.ns.length cv).ownBlock = some k → ∃ cs ty f, (wd.alloc (.cells #[.string ⟨t.t.toArray⟩] 9)).heap[k]? = some (.cells cs ty f) ∧ ty = 9) := fun k hk => by
    obtain ⟨cs, h5⟩ := own_ty T6.out.o5 k hk
    exact ⟨cs, 9, _, h5, rfl⟩
  have kb : ∀ (k : Nat) (cs : Array Value) (ty : TypeId) (f : Nat × Nat), (wd.alloc (.cells #[.string ⟨t.t.toArray⟩] 9)).heap[k]? = some (.cells cs ty f) → ty ≠ 9 → w6.heap[k]? = some (.cells cs ty f) := fun k _ _ _ hk ht => (KC.out.block k (lt_of_block hk) (fun hf => by
    obtain ⟨cs', t', f', h5, h6⟩ := HC.out k hf
    rw [hk] at h5
    simp at h5
    exact ht (by rw [h5.2.1]; exact h6))).trans hk
  have B7 := hide (kb _ _ _ _ T6.out.blk (by decide))
  have V7 := hide (kb _ _ _ _ V6.out (by decide))
  have P7 := hide (kb _ _ _ _ P6.out (by decide))
  have R7 : Hid (RdA w6 rbase rp g cap Ts i) := R6.out.kept KC.out (fun hf => by obtain ⟨cs', t', f', h5, h6⟩ := HC.out _ hf; rw [R6.out.blk] at h5; simp at h5; rw [← h5.2.1] at h6; cases h6) (fun hf => by obtain ⟨cs', t', f', h5, h6⟩ := HC.out _ hf; obtain ⟨cs2, h7⟩ := own_ty R6.out.row g rfl; rw [h7] at h5; simp at h5; rw [← h5.2.1] at h6; cases h6)
  have ow : ∀ {e : TypeId} {size n : Nat} {v : Value} {xs : List Value}, (wd.alloc (.cells #[.string ⟨t.t.toArray⟩] 9)).ownsRow base e size v n xs → e ≠ 9 → w6.ownsRow base e size v n xs := fun ho he => own_other ho KC.out (fun k hk => by obtain ⟨cs', t', f', h5, h6⟩ := HC.out k hk; exact ⟨cs', t', f', h5, by rw [h6]; exact fun e => he e.symm⟩)
  have L7 : Hid (LfK base rp w w6) := (LfK.of_below XW6.out).trans (LfK.of_own T6.out.o5 (by decide) KC.out)
  have S7 := hide (SF.out w6 V7.out (B7.out.trans T2.out.blk.symm) P7.out)
  have O7 : Hid (w6.ownsRow base 9 1 (.slice (some ⟨g6, 0, none⟩) (c.ns.length + 1) cap6) (c.ns ++ [t.t]).length (nsC (c.ns ++ [t.t])) ∧ w6.ownsRow base 47 2 v3 c.pre.length (prC c.pre) ∧ w6.ownsRow base 68 2 v4 c.sp.length (prC c.sp)) := ⟨by rw [List.length_append, nsC_snoc]; exact h1, ow T6.out.o3 (by decide), ow T6.out.o4 (by decide)⟩
  have HKD := hide T6.out.kids
  have HBS := hide T6.out.bas
  refine hK _ _ S7.out ?_
  clear hK K h1 h2 h3 h4 kb ow KC HC T6 V6 P6 R6 S6 HNW HSW XW6 X6
  refine UntH.take (i := 9) (some 12) rfl rfl (by kernel_rfl) (by kernel_rfl) (by kernel_rfl) (by kernel_rfl) (fun _ _ _ _ h => h) (by rfl) S7.out ?_
  apply Exists.intro
  refine ⟨fun w' hw' => ?_, ?_⟩
  · obtain ⟨q1, q2, q3, q4⟩ := hw'
    go_simp
    first | done | rfl
  refine UntH.take (i := 10) (some 13) rfl rfl (by kernel_rfl) (by kernel_rfl) (by kernel_rfl) (by kernel_rfl) (fun _ _ _ _ h => h) (by rfl) S7.out ?_
  apply Exists.intro
  refine ⟨fun w' hw' => ?_, ?_⟩
  · obtain ⟨q1, q2, q3, q4⟩ := hw'
    go_simp
    first | done | rfl
  have c7 := S7.out.2.1
  have f7 := frozen_of_row w6 cp 5 _ _ B7.out
  refine UntH.last (by kernel_rfl) rfl (by kernel_rfl) (by kernel_rfl) (fun K hK => ?_)
  go_simp
  refine hK _ _ ?_
  clear hK K c7 f7
  have K8 : Hid (Kept (fun k => k = cp) w6 (w6.setCell ⟨cp, 5, none⟩ (.slice (some ⟨g6, 0, none⟩) (c.ns.length + 1) cap6))) := Kept.setCell (F := fun k => k = cp) (p := ⟨cp, 5, none⟩) (Kept.refl _ _) rfl _
  have B8 : Hid ((w6.setCell ⟨cp, 5, none⟩ (.slice (some ⟨g6, 0, none⟩) (c.ns.length + 1) cap6)).heap[cp]? = some (.cells #[.int .i64 c.k, .string ⟨c.nm.toArray⟩, .string ⟨c.tx.toArray⟩, v3, v4, .slice (some ⟨g6, 0, none⟩) (c.ns.length + 1) cap6, .slice none 0 0, .int .i64 c.p] 60 (0, 0))) := by
    have := block_setCell' B7.out 5 (.slice (some ⟨g6, 0, none⟩) (c.ns.length + 1) cap6)
    simpa [Hid] using this
  go_wp2
  go_end0
  have ow : ∀ {e : TypeId} {size n : Nat} {v : Value} {xs : List Value}, w6.ownsRow base e size v n xs → e ≠ 60 → (w6.setCell ⟨cp, 5, none⟩ (.slice (some ⟨g6, 0, none⟩) (c.ns.length + 1) cap6)).ownsRow base e size v n xs := fun ho he => own_other ho K8.out (fun k hk => by have hk : k = cp := hk; subst hk; exact ⟨_, 60, _, B7.out, fun e => he e.symm⟩)
  refine ⟨rfl, ⟨_, B8.out, ow O7.out.2.1 (by decide), ow O7.out.2.2 (by decide), ow O7.out.1 (by decide), HKD.out, HBS.out⟩, R7.out.kept K8.out (fun e => block_ne R7.out.blk B7.out (by decide) e) (fun e => ?_), L7.out.trans (LfK.of_cp B7.out HBS.out K8.out)⟩
  obtain ⟨cs2, h7⟩ := own_ty R7.out.row g rfl
  exact block_ne h7 B7.out (by decide) e
end Go.Proofs.YtlmhofjiobmodaaGreatDoor
