/-
  A test is kept: the first; one that is there. Condition: as in the texts before.
-/
import Derived.Test.YthgikaklcglpiaaGreatDoorP43
namespace Go.Proofs.YthgikaklcglpiaaGreatDoor.L9
open Go.RowKit Go.Lib

theorem info35s : (Tryz.prog.info? 35).map (fun i => (i.zero, i.size, i.bytes)) = some (some (.agg #[.int .i64 0, .string ⟨#[]⟩, .slice none 0 0, .slice none 0 0, .slice none 0 0]), 5, 96) := by kernel_rfl
/-- One test has been found. -/
structure FdA (w : World) (F base : Nat) (a : L5.AD) (g c : Nat) : Prop where
  fb : w.heap[F]? = some (.cells #[.slice (some ⟨g, 0, none⟩) 1 c] 106 (0, 0))
  row : w.ownsRow base 35 5 (.slice (some ⟨g, 0, none⟩) 1 c) 1 [.int .i64 a.k, .string ⟨a.nm.toArray⟩, .slice a.so a.sp.length a.sc, .slice a.no a.ns.length a.nc, .slice a.po a.D.length a.pc]
  at_ : AtF w base a
theorem FdA.below {w w' : World} {F base : Nat} {a : L5.AD} {g c : Nat} (h : FdA w F base a g c) (x : Below w.heap.size w w') : FdA w' F base a g c := ⟨(x.block F (lt_of_block h.fb)).trans h.fb, own_below h.row x, h.at_.below x⟩
theorem row_five {w : World} {base : Nat} {a : L5.AD} {g c : Nat} (h : w.ownsRow base 35 5 (.slice (some ⟨g, 0, none⟩) 1 c) 1 [.int .i64 a.k, .string ⟨a.nm.toArray⟩, .slice a.so a.sp.length a.sc, .slice a.no a.ns.length a.nc, .slice a.po a.D.length a.pc]) : w.cell? ⟨g, 0, none⟩ = some (.int .i64 a.k) ∧ w.cell? ⟨g, 1, none⟩ = some (.string ⟨a.nm.toArray⟩) ∧ w.cell? ⟨g, 2, none⟩ = some (.slice a.so a.sp.length a.sc) ∧ w.cell? ⟨g, 3, none⟩ = some (.slice a.no a.ns.length a.nc) ∧ w.cell? ⟨g, 4, none⟩ = some (.slice a.po a.D.length a.pc) :=
  ⟨h.cellAt 0 (by decide), h.cellAt 1 (by decide), h.cellAt 2 (by decide), h.cellAt 3 (by decide), h.cellAt 4 (by decide)⟩
set_option maxRecDepth 100000 in
set_option maxHeartbeats 4000000 in
theorem keep_there {w : World} {F base g c : Nat} (a b : L5.AD) (hF : FdA w F base b g c) (ha : L5.AtW w a) (hs : L5.sameA a b = true) :
    Calls Tryz.prog 146 #[.pointer (some ⟨F, 0, none⟩), .agg a.cells] w fun e w' => e = .returned (.tuple #[]) ∧ Below w.heap.size w w' := by
  have hmf : ∀ (fn : Fn) (first cap : Array Value) (w : World), (Instr.makeFunc fn first cap).run Tryz.prog w = .ok (.func fn first cap) w := fun _ _ _ _ => rfl
  obtain ⟨W, hW⟩ : ∃ W, W = w.alloc (.cells #[.int .i64 a.k, .string ⟨a.nm.toArray⟩, .slice a.so a.sp.length a.sc, .slice a.no a.ns.length a.nc, .slice a.po a.D.length a.pc] 35) := ⟨_, rfl⟩
  have XW := hide (show Below w.heap.size w W by rw [hW]; exact al (Below.refl _ _) _)
  have BA := hide (show W.heap[w.heap.size]? = some (.cells #[.int .i64 a.k, .string ⟨a.nm.toArray⟩, .slice a.so a.sp.length a.sc, .slice a.no a.ns.length a.nc, .slice a.po a.D.length a.pc] 35 (0, 0)) by rw [hW]; exact heap_alloc_new w _)
  have HF := hide (hF.below XW.out)
  have HC := hide (cont_one (c := c) a b BA.out (ha.below XW.out) HF.out.at_.at_ (row_five HF.out.row) hs)
  rw [show a.cells = #[.int .i64 a.k, .string ⟨a.nm.toArray⟩, .slice a.so a.sp.length a.sc, .slice a.no a.ns.length a.nc, .slice a.po a.D.length a.pc] from rfl]
  have f0 : W.cell? ⟨F, 0, none⟩ = some (.slice (some ⟨g, 0, none⟩) 1 c) := by rw [cell_of_row _ _ _ _ _ _ HF.out.fb]; rfl
  clear hF ha hs HF
  obtain ⟨A, hA⟩ : ∃ A, A = w.heap.size := ⟨_, rfl⟩
  go_enter Tryz.func146, Tryz.ntmps146
  go_upto_region 1 with fail
  rw [← hW, ← hA]
  rw [← hA] at BA HC
  clear hW hA
  go_wp2_with (go_at_call 196; refine HC.out.mono ?_; rintro e w2 ⟨rfl, x2⟩; have X2 := hide (bt XW.out x2 (Nat.le_refl _)); clear x2)
  go_end0
  exact ⟨rfl, X2.out⟩
set_option maxRecDepth 100000 in
set_option maxHeartbeats 4000000 in
theorem keep_first {w : World} {F base : Nat} (a : L5.AD) (hF : w.heap[F]? = some (.cells #[.slice none 0 0] 106 (0, 0))) (ha : AtF w base a) (hb : base ≤ w.heap.size) (hFb : F < base) :
    Calls Tryz.prog 146 #[.pointer (some ⟨F, 0, none⟩), .agg a.cells] w fun e w' => e = .returned (.tuple #[]) ∧ (∃ g c, FdA w' F base a g c) ∧ Kept (fun k => k = F) w w' := by
  have hmf : ∀ (fn : Fn) (first cap : Array Value) (w : World), (Instr.makeFunc fn first cap).run Tryz.prog w = .ok (.func fn first cap) w := fun _ _ _ _ => rfl
  obtain ⟨ie, hie, hz0, hz1, hz2⟩ := info_parts info35s
  obtain ⟨W, hW⟩ : ∃ W, W = w.alloc (.cells #[.int .i64 a.k, .string ⟨a.nm.toArray⟩, .slice a.so a.sp.length a.sc, .slice a.no a.ns.length a.nc, .slice a.po a.D.length a.pc] 35) := ⟨_, rfl⟩
  have XW := hide (show Below w.heap.size w W by rw [hW]; exact al (Below.refl _ _) _)
  have BA := hide (show W.heap[w.heap.size]? = some (.cells #[.int .i64 a.k, .string ⟨a.nm.toArray⟩, .slice a.so a.sp.length a.sc, .slice a.no a.ns.length a.nc, .slice a.po a.D.length a.pc] 35 (0, 0)) by rw [hW]; exact heap_alloc_new w _)
  have BF := hide ((XW.out.block F (lt_of_block hF)).trans hF)
  have HA0 := hide ha
  have HB := hide hb
  have HFB := hide hFb
  rw [show a.cells = #[.int .i64 a.k, .string ⟨a.nm.toArray⟩, .slice a.so a.sp.length a.sc, .slice a.no a.ns.length a.nc, .slice a.po a.D.length a.pc] from rfl]
  have f0 : W.cell? ⟨F, 0, none⟩ = some (.slice none 0 0) := by rw [cell_of_row _ _ _ _ _ _ BF.out]; rfl
  clear hF ha hb hFb
  obtain ⟨A, hA⟩ : ∃ A, A = w.heap.size := ⟨_, rfl⟩
  have HAE : Hid (w.heap.size ≤ A) := by unfold Hid; omega
  go_enter Tryz.func146, Tryz.ntmps146
  go_upto_region 1 with fail
  rw [← hW, ← hA]
  rw [← hA] at BA
  clear hW hA
  go_upto_region 3 with (go_at_call 196; refine (cont_none A 0 none W).mono ?_; rintro e w2 ⟨rfl, hw⟩; have hw2 := hw.symm; clear hw; subst hw2)
  clear f0 hmf
  refine wp_unt (S := fun V => V.cell? ⟨F, 0, none⟩ = some (.slice none 0 0) ∧ V.cell? ⟨A, 0, none⟩ = some (.int .i64 a.k) ∧ V.cell? ⟨A, 1, none⟩ = some (.string ⟨a.nm.toArray⟩) ∧ V.cell? ⟨A, 2, none⟩ = some (.slice a.so a.sp.length a.sc) ∧ V.cell? ⟨A, 3, none⟩ = some (.slice a.no a.ns.length a.nc) ∧ V.cell? ⟨A, 4, none⟩ = some (.slice a.po a.D.length a.pc)) 10 (by kernel_rfl) ?_
  have XD : Hid (Below W.heap.size W W.drew) := (Below.refl _ _).drew
  have A2 := hide ((XD.out.block A (lt_of_block BA.out)).trans BA.out)
  have F2 := hide ((XD.out.block F (lt_of_block BF.out)).trans BF.out)
  have X2 := hide (bt XW.out XD.out (Nat.le_refl _))
  clear XD BA BF XW
  generalize W.drew = wd at *
  have SF : Hid (∀ V : World, V.heap[F]? = wd.heap[F]? → V.heap[A]? = wd.heap[A]? → V.cell? ⟨F, 0, none⟩ = some (.slice none 0 0) ∧ V.cell? ⟨A, 0, none⟩ = some (.int .i64 a.k) ∧ V.cell? ⟨A, 1, none⟩ = some (.string ⟨a.nm.toArray⟩) ∧ V.cell? ⟨A, 2, none⟩ = some (.slice a.so a.sp.length a.sc) ∧ V.cell? ⟨A, 3, none⟩ = some (.slice a.no a.ns.length a.nc) ∧ V.cell? ⟨A, 4, none⟩ = some (.slice a.po a.D.length a.pc)) := fun V h1 h2 => by
    have h1 := h1.trans F2.out
    have h2 := h2.trans A2.out
    refine ⟨by rw [cell_of_row _ _ _ _ _ _ h1]; rfl, ?_⟩
    exact L5.five_of h2
  have S2 := hide (SF.out wd rfl rfl)
  refine UntH.take (i := 0) (some 13) rfl rfl (by kernel_rfl) (by kernel_rfl) (by kernel_rfl) (by kernel_rfl) (fun _ _ _ _ h => h) (by rfl) S2.out ?_
  apply Exists.intro
  refine ⟨fun w' hw' => ?_, ?_⟩
  · obtain ⟨q0, q1, q2, q3, q4, q5⟩ := hw'
    go_simp
    first | done | rfl
  try simp only [Act.put, List.setIfInBounds_toArray, List.set_cons_zero, List.set_cons_succ]
  refine UntH.take (i := 1) (some 14) rfl rfl (by kernel_rfl) (by kernel_rfl) (by kernel_rfl) (by kernel_rfl) (fun _ _ _ _ h => h) (by rfl) S2.out ?_
  apply Exists.intro
  refine ⟨fun w' hw' => ?_, ?_⟩
  · obtain ⟨q0, q1, q2, q3, q4, q5⟩ := hw'
    go_simp
    first | done | rfl
  try simp only [Act.put, List.setIfInBounds_toArray, List.set_cons_zero, List.set_cons_succ]
  refine UntH.take (i := 2) (some 15) rfl rfl (by kernel_rfl) (by kernel_rfl) (by kernel_rfl) (by kernel_rfl) (fun _ _ _ _ h => h) (by rfl) S2.out ?_
  apply Exists.intro
  refine ⟨fun w' hw' => ?_, ?_⟩
  · obtain ⟨q0, q1, q2, q3, q4, q5⟩ := hw'
    go_simp
    first | done | rfl
  try simp only [Act.put, List.setIfInBounds_toArray, List.set_cons_zero, List.set_cons_succ]
  refine UntH.take (i := 3) (some 16) rfl rfl (by kernel_rfl) (by kernel_rfl) (by kernel_rfl) (by kernel_rfl) (fun _ _ _ _ h => h) (by rfl) S2.out ?_
  apply Exists.intro
  refine ⟨fun w' hw' => ?_, ?_⟩
  · obtain ⟨q0, q1, q2, q3, q4, q5⟩ := hw'
    go_simp
    first | done | rfl
  try simp only [Act.put, List.setIfInBounds_toArray, List.set_cons_zero, List.set_cons_succ]
  refine UntH.take (i := 4) (some 17) rfl rfl (by kernel_rfl) (by kernel_rfl) (by kernel_rfl) (by kernel_rfl) (fun _ _ _ _ h => h) (by rfl) S2.out ?_
  apply Exists.intro
  refine ⟨fun w' hw' => ?_, ?_⟩
  · obtain ⟨q0, q1, q2, q3, q4, q5⟩ := hw'
    go_simp
    first | done | rfl
  try simp only [Act.put, List.setIfInBounds_toArray, List.set_cons_zero, List.set_cons_succ]
  refine UntH.take (i := 5) (some 18) rfl rfl (by kernel_rfl) (by kernel_rfl) (by kernel_rfl) (by kernel_rfl) (fun _ _ _ _ h => h) (by rfl) S2.out ?_
  apply Exists.intro
  refine ⟨fun w' hw' => ?_, ?_⟩
  · obtain ⟨q0, q1, q2, q3, q4, q5⟩ := hw'
    go_simp
    first | done | rfl
  try simp only [Act.put, List.setIfInBounds_toArray, List.set_cons_zero, List.set_cons_succ]
  have X3 : Hid (Below wd.heap.size wd (wd.alloc (.cells #[.int .i64 a.k, .string ⟨a.nm.toArray⟩, .slice a.so a.sp.length a.sc, .slice a.no a.ns.length a.nc, .slice a.po a.D.length a.pc] 35))) := al (Below.refl _ _) _
  have S3 := hide (SF.out _ (X3.out.block F (lt_of_block F2.out)) (X3.out.block A (lt_of_block A2.out)))
  refine UntH.step (i := 6) (by kernel_rfl) rfl (fun K hK => ?_)
  go_simp
  refine hK _ _ S3.out ?_
  clear hK K
  try simp only [Act.put, List.setIfInBounds_toArray, List.set_cons_zero, List.set_cons_succ]
  have HNW : Hid (∀ j u, ([.int .i64 a.k, .string ⟨a.nm.toArray⟩, .slice a.so a.sp.length a.sc, .slice a.no a.ns.length a.nc, .slice a.po a.D.length a.pc] : List Value)[j]? = some u → (wd.alloc (.cells #[.int .i64 a.k, .string ⟨a.nm.toArray⟩, .slice a.so a.sp.length a.sc, .slice a.no a.ns.length a.nc, .slice a.po a.D.length a.pc] 35)).cell? ((⟨wd.heap.size, 0, none⟩ : Addr).add j) = some u) := by
    intro j u hu
    match j, hu with
    | 0, hu => simp at hu; subst hu; simp [Addr.add]
    | 1, hu => simp at hu; subst hu; simp [Addr.add]
    | 2, hu => simp at hu; subst hu; simp [Addr.add]
    | 3, hu => simp at hu; subst hu; simp [Addr.add]
    | 4, hu => simp at hu; subst hu; simp [Addr.add]
  refine UntH.step (i := 7) (by kernel_rfl) rfl (fun K hK => ?_)
  refine step_append_lies _ (by rfl) (.tmp 17) (.tmp 19) 31 (by rfl) (wd.alloc (.cells #[.int .i64 a.k, .string ⟨a.nm.toArray⟩, .slice a.so a.sp.length a.sc, .slice a.no a.ns.length a.nc, .slice a.po a.D.length a.pc] 35)).heap.size 35 ie (.agg #[.int .i64 0, .string ⟨#[]⟩, .slice none 0 0, .slice none 0 0, .slice none 0 0]) 5 96 Tryz.underlying31 hie hz0 hz1 hz2 rfl (by decide) _ 0 [] (by rfl) (World.ownsRow_nil _ _ _ _) ⟨wd.heap.size, 0, none⟩ 1 1 [.int .i64 a.k, .string ⟨a.nm.toArray⟩, .slice a.so a.sp.length a.sc, .slice a.no a.ns.length a.nc, .slice a.po a.D.length a.pc] (by rfl) (by rfl) HNW.out (by simp [Value.oneCell']) (by decide) (by unfold maxLen; omega) (by omega) (Nat.le_refl _) _ rfl ?_
  intro g6 cap6 w6 h1 h2 h3 h4
  have X6 := hide (bt X3.out (below_of_grown h2) (Nat.le_refl _))
  have O6 : Hid (w6.ownsRow (wd.alloc (.cells #[.int .i64 a.k, .string ⟨a.nm.toArray⟩, .slice a.so a.sp.length a.sc, .slice a.no a.ns.length a.nc, .slice a.po a.D.length a.pc] 35)).heap.size 35 5 (.slice (some ⟨g6, 0, none⟩) 1 cap6) 1 [.int .i64 a.k, .string ⟨a.nm.toArray⟩, .slice a.so a.sp.length a.sc, .slice a.no a.ns.length a.nc, .slice a.po a.D.length a.pc]) := h1
  have F6 := hide ((X6.out.block F (lt_of_block F2.out)).trans F2.out)
  have S6 := hide (SF.out _ (X6.out.block F (lt_of_block F2.out)) (X6.out.block A (lt_of_block A2.out)))
  refine hK _ _ S6.out ?_
  clear hK K h1 h2 h3 h4 S3 S2 HNW
  refine UntH.take (i := 8) (some 21) rfl rfl (by kernel_rfl) (by kernel_rfl) (by kernel_rfl) (by kernel_rfl) (fun _ _ _ _ h => h) (by rfl) S6.out ?_
  apply Exists.intro
  refine ⟨fun w' hw' => ?_, ?_⟩
  · obtain ⟨q0, q1, q2, q3, q4, q5⟩ := hw'
    go_simp
    first | done | rfl
  refine UntH.take (i := 9) (some 22) rfl rfl (by kernel_rfl) (by kernel_rfl) (by kernel_rfl) (by kernel_rfl) (fun _ _ _ _ h => h) (by rfl) S6.out ?_
  apply Exists.intro
  refine ⟨fun w' hw' => ?_, ?_⟩
  · obtain ⟨q0, q1, q2, q3, q4, q5⟩ := hw'
    go_simp
    first | done | rfl
  have c7 := S6.out.1
  have f7 := frozen_of_row w6 F 0 _ _ F6.out
  refine UntH.last (by kernel_rfl) rfl (by kernel_rfl) (by kernel_rfl) (fun K hK => ?_)
  go_simp
  refine hK _ _ ?_
  clear hK K c7 f7
  have K8 : Hid (Kept (fun k => k = F) w6 (w6.setCell ⟨F, 0, none⟩ (.slice (some ⟨g6, 0, none⟩) 1 cap6))) := Kept.setCell (F := fun k => k = F) (p := ⟨F, 0, none⟩) (Kept.refl _ _) rfl _
  have B8 : Hid ((w6.setCell ⟨F, 0, none⟩ (.slice (some ⟨g6, 0, none⟩) 1 cap6)).heap[F]? = some (.cells #[.slice (some ⟨g6, 0, none⟩) 1 cap6] 106 (0, 0))) := by
    have := block_setCell' F6.out 0 (.slice (some ⟨g6, 0, none⟩) 1 cap6)
    simpa [Hid] using this
  go_wp2
  go_end0
  have hX := bt X2.out X6.out (Nat.le_refl _)
  have hs1 := X3.out.size
  have hs2 := X2.out.size
  have hb := HB.out
  have hfb := HFB.out
  refine ⟨rfl, ⟨g6, cap6, B8.out, own_kept (own_mono O6.out (by omega)) K8.out (fun k hk e => ?_), ?_⟩, (Kept.of_below hX).trans K8.out⟩
  · have := (World.ownsRow.lt O6.out k hk).1
    have e : k = F := e
    omega
  · exact (HA0.out.below hX).kept (F := fun k => k = F) ⟨K8.out.os, K8.out.tape, K8.out.output, K8.out.size, K8.out.block⟩ (fun k hk => by have hk : k = F := hk; omega)
end Go.Proofs.YthgikaklcglpiaaGreatDoor.L9
/-
  A condition is gone through: the first; one whose test is there. Condition: as in the texts before.
-/
namespace Go.Proofs.YthgikaklcglpiaaGreatDoor.L9
open Go.RowKit Go.Lib

theorem PtA.same {a b : L5.AD} (h : PtA a) (k : PtA b) : L5.sameA a b = true := by
  obtain ⟨h1, h2, h3, h4, h5⟩ := h
  obtain ⟨k1, k2, k3, k4, k5⟩ := k
  simp [L5.sameA, h1, h2, h3, h4, h5, k1, k2, k3, k4, k5, L5.pcsEq]
set_option maxRecDepth 100000 in
set_option maxHeartbeats 4000000 in
theorem cond_first {w : World} {F g : Nat} (hg : knB w g) (hF : w.heap[F]? = some (.cells #[.slice none 0 0] 106 (0, 0))) :
    Calls Tryz.prog 99 #[.pointer (some ⟨F, 0, none⟩), .agg #[.int .i64 8, .string ⟨#[]⟩, .string ⟨#[]⟩, .slice none 0 0, .slice (some ⟨g, 0, none⟩) 2 2, .slice none 0 0, .slice none 0 0, .int .i64 0]] w fun e w' => e = .returned (.bool true) ∧ (∃ a g1 c1, FdA w' F w.heap.size a g1 c1 ∧ PtA a) ∧ Kept (fun k => k = F) w w' := by
  obtain ⟨W, hW⟩ : ∃ W, W = w.alloc (.cells #[.int .i64 8, .string ⟨#[]⟩, .string ⟨#[]⟩, .slice none 0 0, .slice (some ⟨g, 0, none⟩) 2 2, .slice none 0 0, .slice none 0 0, .int .i64 0] 27) := ⟨_, rfl⟩
  have XW := hide (show Below w.heap.size w W by rw [hW]; exact al (Below.refl _ _) _)
  have BC := hide (show W.heap[w.heap.size]? = some (.cells #[.int .i64 8, .string ⟨#[]⟩, .string ⟨#[]⟩, .slice none 0 0, .slice (some ⟨g, 0, none⟩) 2 2, .slice none 0 0, .slice none 0 0, .int .i64 0] 27 (0, 0)) by rw [hW]; exact heap_alloc_new w _)
  have HO := hide (of_known (w := W) (g := g) ((XW.out.block g (lt_of_block hg)).trans hg))
  obtain ⟨P, hP⟩ : ∃ P, P = w.heap.size := ⟨_, rfl⟩
  have HH : Hid (∀ V, Below w.heap.size w V → True) := fun _ _ => trivial
  go_enter Tryz.func99, Tryz.ntmps99
  go_upto_region 1 with fail
  rw [← hW, ← hP]
  rw [← hP] at BC
  clear hW hP HH
  have hBC := BC.out
  have e0 : W.cell? ⟨P, 0, none⟩ = some (.int .i64 8) := by rw [cell_of_row _ _ _ _ _ _ hBC]; rfl
  have e1 : W.cell? ⟨P, 1, none⟩ = some (.string ⟨#[]⟩) := by rw [cell_of_row _ _ _ _ _ _ hBC]; rfl
  have e2 : W.cell? ⟨P, 2, none⟩ = some (.string ⟨#[]⟩) := by rw [cell_of_row _ _ _ _ _ _ hBC]; rfl
  have e3 : W.cell? ⟨P, 3, none⟩ = some (.slice none 0 0) := by rw [cell_of_row _ _ _ _ _ _ hBC]; rfl
  have e4 : W.cell? ⟨P, 4, none⟩ = some (.slice (some ⟨g, 0, none⟩) 2 2) := by rw [cell_of_row _ _ _ _ _ _ hBC]; rfl
  have e5 : W.cell? ⟨P, 5, none⟩ = some (.slice none 0 0) := by rw [cell_of_row _ _ _ _ _ _ hBC]; rfl
  have e6 : W.cell? ⟨P, 6, none⟩ = some (.slice none 0 0) := by rw [cell_of_row _ _ _ _ _ _ hBC]; rfl
  have e7 : W.cell? ⟨P, 7, none⟩ = some (.int .i64 0) := by rw [cell_of_row _ _ _ _ _ _ hBC]; rfl
  have HFF := hide hF
  clear hBC BC hF hg
  go_wp2_with (fail)
  refine HO.out.mono ?_
  rintro e w4 ⟨⟨a, rfl, ha, hat⟩, x4⟩
  clear e0 e1 e2 e3 e4 e5 e6 e7 HO
  have HPA := hide ha
  have XT : Below w4.heap.size w4 (w4.alloc (.cells #[.int .i64 a.k, .string ⟨a.nm.toArray⟩, .slice a.so a.sp.length a.sc, .slice a.no a.ns.length a.nc, .slice a.po a.D.length a.pc] 35)) := al (Below.refl _ _) _
  have HAT5 := hide (hat.below XT)
  have X5 := hide (bt x4 XT (Nat.le_refl _))
  have BT := hide (heap_alloc_new w4 (.cells #[.int .i64 a.k, .string ⟨a.nm.toArray⟩, .slice a.so a.sp.length a.sc, .slice a.no a.ns.length a.nc, .slice a.po a.D.length a.pc] 35))
  have X6 := hide (bt XW.out X5.out (Nat.le_refl _))
  have hF := HFF.out
  have HK := hide (keep_first (base := w.heap.size) a ((bt XW.out X5.out (Nat.le_refl _)).block F (lt_of_block hF) |>.trans hF) (HAT5.out.mono XW.out.size) (bt XW.out X5.out (Nat.le_refl _)).size (lt_of_block hF))
  clear HFF hF ha hat XT x4 HAT5 X5 XW
  rw [show a.cells = #[.int .i64 a.k, .string ⟨a.nm.toArray⟩, .slice a.so a.sp.length a.sc, .slice a.no a.ns.length a.nc, .slice a.po a.D.length a.pc] from rfl] at HK ⊢
  obtain ⟨T, hT⟩ : ∃ T, T = w4.heap.size := ⟨_, rfl⟩
  go_upto_region 11 with fail
  rw [← hT]
  rw [← hT] at BT
  clear hT
  generalize w4.alloc (.cells #[.int .i64 a.k, .string ⟨a.nm.toArray⟩, .slice a.so a.sp.length a.sc, .slice a.no a.ns.length a.nc, .slice a.po a.D.length a.pc] 35) = W5 at *
  obtain ⟨t0, t1, t2, t3, t4⟩ := L5.five_of BT.out
  go_wp2_with (go_at_call 146; refine HK.out.mono ?_; rintro e w6 ⟨rfl, ⟨g1, c1, hfd⟩, k6⟩; have H6 := hide hfd; have K6 := hide k6; clear hfd k6)
  go_ret
  exact ⟨rfl, ⟨a, g1, c1, H6.out, HPA.out⟩, (Kept.of_below X6.out).trans K6.out⟩
set_option maxRecDepth 100000 in
set_option maxHeartbeats 4000000 in
theorem cond_there {w : World} {F g : Nat} (hg : knB w g) {base : Nat} {b : L5.AD} {g1 c1 : Nat} (hF : FdA w F base b g1 c1) (hb : PtA b) :
    Calls Tryz.prog 99 #[.pointer (some ⟨F, 0, none⟩), .agg #[.int .i64 8, .string ⟨#[]⟩, .string ⟨#[]⟩, .slice none 0 0, .slice (some ⟨g, 0, none⟩) 2 2, .slice none 0 0, .slice none 0 0, .int .i64 0]] w fun e w' => e = .returned (.bool true) ∧ Below w.heap.size w w' := by
  obtain ⟨W, hW⟩ : ∃ W, W = w.alloc (.cells #[.int .i64 8, .string ⟨#[]⟩, .string ⟨#[]⟩, .slice none 0 0, .slice (some ⟨g, 0, none⟩) 2 2, .slice none 0 0, .slice none 0 0, .int .i64 0] 27) := ⟨_, rfl⟩
  have XW := hide (show Below w.heap.size w W by rw [hW]; exact al (Below.refl _ _) _)
  have BC := hide (show W.heap[w.heap.size]? = some (.cells #[.int .i64 8, .string ⟨#[]⟩, .string ⟨#[]⟩, .slice none 0 0, .slice (some ⟨g, 0, none⟩) 2 2, .slice none 0 0, .slice none 0 0, .int .i64 0] 27 (0, 0)) by rw [hW]; exact heap_alloc_new w _)
  have HO := hide (of_known (w := W) (g := g) ((XW.out.block g (lt_of_block hg)).trans hg))
  obtain ⟨P, hP⟩ : ∃ P, P = w.heap.size := ⟨_, rfl⟩
  have HH : Hid (∀ V, Below w.heap.size w V → True) := fun _ _ => trivial
  go_enter Tryz.func99, Tryz.ntmps99
  go_upto_region 1 with fail
  rw [← hW, ← hP]
  rw [← hP] at BC
  clear hW hP HH
  have hBC := BC.out
  have e0 : W.cell? ⟨P, 0, none⟩ = some (.int .i64 8) := by rw [cell_of_row _ _ _ _ _ _ hBC]; rfl
  have e1 : W.cell? ⟨P, 1, none⟩ = some (.string ⟨#[]⟩) := by rw [cell_of_row _ _ _ _ _ _ hBC]; rfl
  have e2 : W.cell? ⟨P, 2, none⟩ = some (.string ⟨#[]⟩) := by rw [cell_of_row _ _ _ _ _ _ hBC]; rfl
  have e3 : W.cell? ⟨P, 3, none⟩ = some (.slice none 0 0) := by rw [cell_of_row _ _ _ _ _ _ hBC]; rfl
  have e4 : W.cell? ⟨P, 4, none⟩ = some (.slice (some ⟨g, 0, none⟩) 2 2) := by rw [cell_of_row _ _ _ _ _ _ hBC]; rfl
  have e5 : W.cell? ⟨P, 5, none⟩ = some (.slice none 0 0) := by rw [cell_of_row _ _ _ _ _ _ hBC]; rfl
  have e6 : W.cell? ⟨P, 6, none⟩ = some (.slice none 0 0) := by rw [cell_of_row _ _ _ _ _ _ hBC]; rfl
  have e7 : W.cell? ⟨P, 7, none⟩ = some (.int .i64 0) := by rw [cell_of_row _ _ _ _ _ _ hBC]; rfl
  have HFF := hide hF
  clear hBC BC hF hg
  go_wp2_with (fail)
  refine HO.out.mono ?_
  rintro e w4 ⟨⟨a, rfl, ha, hat⟩, x4⟩
  clear e0 e1 e2 e3 e4 e5 e6 e7 HO
  have HPA := hide ha
  have XT : Below w4.heap.size w4 (w4.alloc (.cells #[.int .i64 a.k, .string ⟨a.nm.toArray⟩, .slice a.so a.sp.length a.sc, .slice a.no a.ns.length a.nc, .slice a.po a.D.length a.pc] 35)) := al (Below.refl _ _) _
  have HAT5 := hide (hat.below XT)
  have X5 := hide (bt x4 XT (Nat.le_refl _))
  have BT := hide (heap_alloc_new w4 (.cells #[.int .i64 a.k, .string ⟨a.nm.toArray⟩, .slice a.so a.sp.length a.sc, .slice a.no a.ns.length a.nc, .slice a.po a.D.length a.pc] 35))
  have X6 := hide (bt XW.out X5.out (Nat.le_refl _))
  have hF := HFF.out
  have HK := hide (keep_there a b (hF.below (bt XW.out X5.out (Nat.le_refl _))) HAT5.out.at_ (PtA.same HPA.out hb))
  clear HFF hF ha hat XT x4 HAT5 X5 XW
  rw [show a.cells = #[.int .i64 a.k, .string ⟨a.nm.toArray⟩, .slice a.so a.sp.length a.sc, .slice a.no a.ns.length a.nc, .slice a.po a.D.length a.pc] from rfl] at HK ⊢
  obtain ⟨T, hT⟩ : ∃ T, T = w4.heap.size := ⟨_, rfl⟩
  go_upto_region 11 with fail
  rw [← hT]
  rw [← hT] at BT
  clear hT
  generalize w4.alloc (.cells #[.int .i64 a.k, .string ⟨a.nm.toArray⟩, .slice a.so a.sp.length a.sc, .slice a.no a.ns.length a.nc, .slice a.po a.D.length a.pc] 35) = W5 at *
  obtain ⟨t0, t1, t2, t3, t4⟩ := L5.five_of BT.out
  go_wp2_with (go_at_call 146; refine HK.out.mono ?_; rintro e w6 ⟨rfl, x6⟩; have X7 := hide (bt X6.out x6 (Nat.le_refl _)); clear x6)
  go_ret
  exact ⟨rfl, X7.out⟩
end Go.Proofs.YthgikaklcglpiaaGreatDoor.L9
