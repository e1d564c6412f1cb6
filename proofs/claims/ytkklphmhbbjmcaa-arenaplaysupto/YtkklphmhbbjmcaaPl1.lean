/-
  Both sides and the world, by the pointers that the statement holds; a step on one of them. Condition: numbers of the machine's kind; no more lists than a process can hold.
-/
import Derived.Test.YtkklphmhbbjmcaaPl0
namespace Go.Proofs.Ytkklphmhbbjmcaa
open Go.RowKit Go.Lib Go.Maps

theorem cell_four {w : World} {b : Nat} {c0 c1 c2 c3 : Value} {t : TypeId} (h : w.heap[b]? = some (.cells #[c0, c1, c2, c3] t (0, 0))) : w.cell? ⟨b, 0, none⟩ = some c0 ∧ w.cell? ⟨b, 1, none⟩ = some c1 ∧ w.cell? ⟨b, 2, none⟩ = some c2 ∧ w.cell? ⟨b, 3, none⟩ = some c3 := ⟨by rw [cell_of_row _ _ 0 _ _ _ h]; rfl, by rw [cell_of_row _ _ 1 _ _ _ h]; rfl, by rw [cell_of_row _ _ 2 _ _ _ h]; rfl, by rw [cell_of_row _ _ 3 _ _ _ h]; rfl⟩
def svS (sb : Nat) : Value := .slice (some ⟨sb, 0, none⟩) 2 2
def PI (w0 : World) (base wb sb : Nat) (cs : Array Value) (po qo po' qo' : Option Addr) (mm : Nat) (w : World) : Prop :=
  ∃ lv D X p q, Value.pointer po = aV p ∧ Value.pointer qo = xV p ∧ Value.pointer po' = aV q ∧ Value.pointer qo' = xV q ∧ Pc w0 base wb sb cs (svS sb) lv D X p q mm w ∧ D.length ≤ mm
def PJ (w0 : World) (base wb sb : Nat) (cs : Array Value) (po qo po' qo' : Option Addr) (N : List Nd) (mm : Nat) (w : World) : Prop :=
  ∃ lv D X s q, Value.pointer po = aV (some s) ∧ Value.pointer qo = xV (some s) ∧ Value.pointer po' = aV q ∧ Value.pointer qo' = xV q ∧ Pc w0 base wb sb cs (svS sb) lv D X (some s) q mm w ∧ D.length ≤ mm ∧ s.N = N
section
variable {w0 w w' : World} {base wb sb : Nat} {cs : Array Value} {po qo po' qo' : Option Addr} {mm : Nat} {N : List Nd}
theorem PI.swap (h : PI w0 base wb sb cs po qo po' qo' mm w) : PI w0 base wb sb cs po' qo' po qo mm w := by
  obtain ⟨lv, D, X, p, q, h1, h2, h3, h4, h5, h6⟩ := h
  exact ⟨lv, D, X, q, p, h3, h4, h1, h2, h5.swap, h6⟩
theorem PI.below (h : PI w0 base wb sb cs po qo po' qo' mm w) (hb : base ≤ w.heap.size) (y : Below w.heap.size w w') : PI w0 base wb sb cs po qo po' qo' mm w' := by
  obtain ⟨lv, D, X, p, q, h1, h2, h3, h4, h5, h6⟩ := h
  exact ⟨lv, D, X, p, q, h1, h2, h3, h4, h5.below hb y, h6⟩
theorem PJ.below (h : PJ w0 base wb sb cs po qo po' qo' N mm w) (hb : base ≤ w.heap.size) (y : Below w.heap.size w w') : PJ w0 base wb sb cs po qo po' qo' N mm w' := by
  obtain ⟨lv, D, X, p, q, h1, h2, h3, h4, h5, h6, h7⟩ := h
  exact ⟨lv, D, X, p, q, h1, h2, h3, h4, h5.below hb y, h6, h7⟩
theorem PI.mono (h : PI w0 base wb sb cs po qo po' qo' mm w) {m' : Nat} (hm : mm ≤ m') : PI w0 base wb sb cs po qo po' qo' m' w := by
  obtain ⟨lv, D, X, p, q, h1, h2, h3, h4, h5, h6⟩ := h
  exact ⟨lv, D, X, p, q, h1, h2, h3, h4, h5.mono hm, Nat.le_trans h6 hm⟩
theorem PI.open (h : PI w0 base wb sb cs po qo po' qo' mm w) (hq : ¬ qo = none) : ∃ N, PJ w0 base wb sb cs po qo po' qo' N mm w := by
  obtain ⟨lv, D, X, p, q, h1, h2, h3, h4, h5, h6⟩ := h
  cases p with
  | none => exact absurd (by unfold xV at h2; simpa using h2) hq
  | some s => exact ⟨s.N, lv, D, X, s, q, h1, h2, h3, h4, h5, h6, rfl⟩
theorem PJ.close (h : PJ w0 base wb sb cs po qo po' qo' N mm w) : PI w0 base wb sb cs po qo po' qo' mm w := by
  obtain ⟨lv, D, X, p, q, h1, h2, h3, h4, h5, h6, h7⟩ := h
  exact ⟨lv, D, X, some p, q, h1, h2, h3, h4, h5, h6⟩
theorem PI.read (h : PI w0 base wb sb cs po qo po' qo' mm w) : ∃ lv, w.heap[wb]? = some (.cells #[svS sb, lv] 38 (0, 0)) ∧ w.heap[sb]? = some (.cells cs 34 (0, 0)) ∧ Below base w0 w ∧ base ≤ wb := by
  obtain ⟨lv, D, X, p, q, h1, h2, h3, h4, h5, h6⟩ := h
  exact ⟨lv, h5.wd.blk, h5.row, h5.bel, h5.wd.bas⟩
theorem PI.start {o0 o1 : Option SI} (cs : Array Value) (p0 : Value.pointer po = aV o0) (q0 : Value.pointer qo = xV o0) (p1 : Value.pointer po' = aV o1) (q1 : Value.pointer qo' = xV o1) (h0 : OkS w base 0 o0) (h1 : OkS w base 0 o1) (ap : ∀ k, foot o0 k → ¬ foot o1 k) (hb : base ≤ w.heap.size) (y : Below base w0 w) :
    PI w0 base (w.heap.size + 1) w.heap.size cs po qo po' qo' 0 ((w.alloc (.cells cs 34)).alloc (.cells #[svS w.heap.size, .slice none 0 0] 38)) := by
  have y1 : Below w.heap.size w (w.alloc (.cells cs 34)) := al (Below.refl _ _) _
  have b1 := heap_alloc_new w (.cells cs 34)
  have y2 : Below (w.alloc (.cells cs 34)).heap.size (w.alloc (.cells cs 34)) ((w.alloc (.cells cs 34)).alloc (.cells #[svS w.heap.size, .slice none 0 0] 38)) := al (Below.refl _ _) _
  have b2 := heap_alloc_new (w.alloc (.cells cs 34)) (.cells #[svS w.heap.size, .slice none 0 0] 38)
  rw [show (w.alloc (.cells cs 34)).heap.size = w.heap.size + 1 by simp] at b2
  have b1' := (y2.block w.heap.size (lt_of_block b1)).trans b1
  have y3 := bt y1 y2 (Nat.le_refl _)
  have hnf : ∀ k, ¬ FutL [] 0 k := fun k ⟨i, hi, _⟩ => by simp at hi
  refine ⟨.slice none 0 0, [], fun _ => [], o0, o1, p0, q0, p1, q1, ⟨h0.below y3, h1.below y3, ap, ⟨b2, by omega, ⟨World.ownsRow_nil _ _ _ _, fun i hi => by simp at hi, List.Pairwise.nil⟩, fun d hd => by simp at hd⟩, fun k hk => ?_, b1', y.trans (y3.mono hb)⟩, Nat.le_refl _⟩
  have : k < w.heap.size := hk.elim (fun h => (h0.lt h).2) (fun h => (h1.lt h).2)
  exact ⟨by omega, fun hb' => (by cases hb'), hnf k, by omega⟩
theorem PJ.len (h : PJ w0 base wb sb cs po qo po' qo' N mm w) : Calls Try.prog 10 #[.pointer qo] w fun e w' => e = .returned (.int .i64 (N.length : Int)) ∧ w' = w := by
  obtain ⟨lv, D, X, s, q, h1, h2, h3, h4, h5, h6, rfl⟩ := h
  rw [h2]
  exact (h5.okp.sd s rfl).ra.len
theorem PJ.few (h : PJ w0 base wb sb cs po qo po' qo' N mm w) : N.length ≤ 8192 := by
  obtain ⟨lv, D, X, s, q, h1, h2, h3, h4, h5, h6, rfl⟩ := h
  have h7 := (h5.okp.sd s rfl).ca.ok
  have := h7.few
  have := h7.m1
  omega
/-- A step of whatever kind. -/
theorem PJ.step (o : OpZ) (h : PJ w0 base wb sb cs po qo po' qo' N mm w) (ho : OpOk w o) (hob : ∀ b off, o.ka = some ⟨b, off, none⟩ → o.K ≠ [] → b < base) (hb : base ≤ w.heap.size) (hm : mm ≤ 2932031007402) :
    Calls Try.prog 8 #[.pointer (some ⟨wb, 0, none⟩), .agg #[.pointer po, .pointer qo], .agg (opC o)] w fun e w' => e = .returned (.bool true) ∧ PI w0 base wb sb cs po qo po' qo' (mm + 1) w' := by
  obtain ⟨lv, D, X, s, q, h1, h2, h3, h4, h5, h6, rfl⟩ := h
  have hms := h5.okp.m s rfl
  rw [h1, h2]
  refine (step_any o h5.st ho hob hb (by omega) (by omega)).mono ?_
  rintro e w' ⟨rfl, N', hK⟩
  obtain ⟨lv', D', X', s', e1, e2, e3, e4, e5, h8, h9⟩ := h5.step hb (Nat.le_refl _) hK
  refine ⟨rfl, lv', D', X', some s', q, ?_, ?_, h3, h4, h8, by omega⟩
  · rw [h1]; unfold aV; simp [e1]
  · rw [h2]; unfold xV; simp [e2]
theorem PJ.stepK (o : OpZ) (h : PJ w0 base wb sb cs po qo po' qo' N mm w) (ho : OpOk w o) (hb : base ≤ w.heap.size) (hm : mm ≤ 2932031007402) (hw : o.what = 4 ∨ o.what = 9) :
    Calls Try.prog 8 #[.pointer (some ⟨wb, 0, none⟩), .agg #[.pointer po, .pointer qo], .agg (opC o)] w fun e w' => e = .returned (.bool true) ∧ PJ w0 base wb sb cs po qo po' qo' N (mm + 1) w' := by
  obtain ⟨lv, D, X, s, q, h1, h2, h3, h4, h5, h6, rfl⟩ := h
  have hms := h5.okp.m s rfl
  rw [h1, h2]
  have hK : Calls Try.prog 8 #[.pointer (some ⟨wb, 0, none⟩), .agg #[.pointer (some ⟨s.a, 0, none⟩), .pointer (some ⟨s.x, 0, none⟩)], .agg (opC o)] w fun e w' => e = .returned (.bool true) ∧ StK w base wb (svS sb) lv D s.a s.x s.S s.M s.m s.P s.Q s.N w' := by
    rcases hw with hw | hw
    · exact stepNode o h5.st ho hb (by omega) (.inl hw)
    · exact stepSizes o h5.st hb (by omega) ⟨by omega, by omega, by omega⟩
  refine hK.mono ?_
  rintro e w' ⟨rfl, hK⟩
  obtain ⟨lv', D', X', s', e1, e2, e3, e4, e5, h8, h9⟩ := h5.step hb (Nat.le_succ _) hK
  refine ⟨rfl, lv', D', X', s', q, ?_, ?_, h3, h4, h8, by omega, e3⟩
  · rw [h1]; unfold aV; simp [e1]
  · rw [h2]; unfold xV; simp [e2]
/-- Beside a block that the statement itself has. -/
def PK (w0 : World) (base wb sb : Nat) (cs : Array Value) (po qo po' qo' : Option Addr) (N : List Nd) (xb : Nat) (cx : Array Value) (mm : Nat) (w : World) : Prop :=
  ∃ lv D X s q, Value.pointer po = aV (some s) ∧ Value.pointer qo = xV (some s) ∧ Value.pointer po' = aV q ∧ Value.pointer qo' = xV q ∧ Pc w0 base wb sb cs (svS sb) lv D X (some s) q mm w ∧ D.length ≤ mm ∧ s.N = N ∧ Pc w0 base wb xb cx (svS sb) lv D X (some s) q mm w
theorem PK.un {xb : Nat} {cx : Array Value} (h : PK w0 base wb sb cs po qo po' qo' N xb cx mm w) : PJ w0 base wb sb cs po qo po' qo' N mm w := by
  obtain ⟨lv, D, X, s, q, h1, h2, h3, h4, h5, h6, h7, h8⟩ := h
  exact ⟨lv, D, X, s, q, h1, h2, h3, h4, h5, h6, h7⟩
theorem PK.row {xb : Nat} {cx : Array Value} (h : PK w0 base wb sb cs po qo po' qo' N xb cx mm w) : w.heap[xb]? = some (.cells cx 34 (0, 0)) ∧ Below base w0 w := by
  obtain ⟨lv, D, X, s, q, h1, h2, h3, h4, h5, h6, h7, h8⟩ := h
  exact ⟨h8.row, h8.bel⟩
theorem PK.below {xb : Nat} {cx : Array Value} (h : PK w0 base wb sb cs po qo po' qo' N xb cx mm w) (hb : base ≤ w.heap.size) (y : Below w.heap.size w w') : PK w0 base wb sb cs po qo po' qo' N xb cx mm w' := by
  obtain ⟨lv, D, X, p, q, h1, h2, h3, h4, h5, h6, h7, h8⟩ := h
  exact ⟨lv, D, X, p, q, h1, h2, h3, h4, h5.below hb y, h6, h7, h8.below hb y⟩
theorem PJ.beside (h : PJ w0 base wb sb cs po qo po' qo' N mm w) (hb : base ≤ w.heap.size) (cx : Array Value) : PK w0 base wb sb cs po qo po' qo' N w.heap.size cx mm (w.alloc (.cells cx 34)) := by
  have y1 : Below w.heap.size w (w.alloc (.cells cx 34)) := al (Below.refl _ _) _
  obtain ⟨lv, D, X, s, q, h1, h2, h3, h4, h5, h6, h7⟩ := h
  refine ⟨lv, D, X, s, q, h1, h2, h3, h4, h5.below hb y1, h6, h7, (h5.below hb y1).other (fun k hk => ?_) (heap_alloc_new _ _)⟩
  have : k < w.heap.size := hk.elim (fun h => (h5.okp.lt h).2) (fun h => (h5.okq.lt h).2)
  omega
theorem PK.stepK {xb : Nat} {cx : Array Value} (o : OpZ) (h : PK w0 base wb sb cs po qo po' qo' N xb cx mm w) (ho : OpOk w o) (hb : base ≤ w.heap.size) (hm : mm ≤ 2932031007402) (hw : o.what = 4 ∨ o.what = 9) :
    Calls Try.prog 8 #[.pointer (some ⟨wb, 0, none⟩), .agg #[.pointer po, .pointer qo], .agg (opC o)] w fun e w' => e = .returned (.bool true) ∧ PK w0 base wb sb cs po qo po' qo' N xb cx (mm + 1) w' := by
  obtain ⟨lv, D, X, s, q, h1, h2, h3, h4, h5, h6, rfl, h7⟩ := h
  have hms := h5.okp.m s rfl
  rw [h1, h2]
  have hK : Calls Try.prog 8 #[.pointer (some ⟨wb, 0, none⟩), .agg #[.pointer (some ⟨s.a, 0, none⟩), .pointer (some ⟨s.x, 0, none⟩)], .agg (opC o)] w fun e w' => e = .returned (.bool true) ∧ StK w base wb (svS sb) lv D s.a s.x s.S s.M s.m s.P s.Q s.N w' := by
    rcases hw with hw | hw
    · exact stepNode o h5.st ho hb (by omega) (.inl hw)
    · exact stepSizes o h5.st hb (by omega) ⟨by omega, by omega, by omega⟩
  refine hK.mono ?_
  rintro e w' ⟨rfl, lv', D', X', P', Q', g1, g2, g3, g4, g5, g6, g7⟩
  exact ⟨rfl, lv', D', X', ⟨s.a, s.x, s.S, s.M, s.N, s.m, P', Q'⟩, q, h1, h2, h3, h4, h5.step' hb (Nat.le_succ _) g1 g2 g3 g4 g5 g7, by omega, rfl, h7.step' hb (Nat.le_succ _) g1 g2 g3 g4 g5 g7⟩
/-- The lists that came out are their own. -/
theorem PI.owned (h : PI w0 base wb sb cs po qo po' qo' mm w) (hb : base ≤ w.heap.size) (hm : mm ≤ 2000000) :
    Calls Try.prog 9 #[.pointer (some ⟨wb, 0, none⟩)] w fun e w' => e = .returned (.bool true) ∧ PI w0 base wb sb cs po qo po' qo' mm (w'.setCell ⟨wb, 1, none⟩ (.slice none 0 0)) ∧ ∃ lv, w'.heap[wb]? = some (.cells #[svS sb, lv] 38 (0, 0)) ∧ Below base w0 w' := by
  obtain ⟨lv, D, X, p, q, h1, h2, h3, h4, h5, h6⟩ := h
  refine (owned_any h5.wd hb (by omega)).mono ?_
  rintro e w' ⟨rfl, hk⟩
  obtain ⟨g1, g2⟩ := h5.wipe hb hk
  exact ⟨rfl, ⟨_, _, _, p, q, h1, h2, h3, h4, g1, Nat.zero_le _⟩, lv, g2, h5.bel.trans (Kept.below hk hb (fun k hf => (h5.wd.lt.2.2 k hf).1))⟩
end
end Go.Proofs.Ytkklphmhbbjmcaa
