/-
  Two sides of a script and the world beside them; both News in one shape. Of the program its types alone: no condition.
-/
import Derived.Test.YtkklphmhbbjmcaaSts
import Derived.Test.YtkklphmhbbjmcaaOwn
namespace Go.Proofs.Ytkklphmhbbjmcaa
open Go.RowKit Go.Lib Go.Maps

/-- A side: where its arenas lie, what they are. -/
structure SI where
  a : Nat
  x : Nat
  S : List Int
  M : Int
  N : List Nd
  m : Nat
  P : Nat → Prop
  Q : Nat → Prop
def aV (o : Option SI) : Value := .pointer (o.map fun s => ⟨s.a, 0, none⟩)
def xV (o : Option SI) : Value := .pointer (o.map fun s => ⟨s.x, 0, none⟩)
def foot (o : Option SI) (k : Nat) : Prop := ∃ s, o = some s ∧ (s.P k ∨ s.Q k)
structure OkS (w : World) (base mm : Nat) (o : Option SI) : Prop where
  sd : ∀ s, o = some s → Sd w base s.a s.x s.S s.M s.N s.m s.P s.Q
  m : ∀ s, o = some s → s.m ≤ mm
theorem OkS.kept {F : Nat → Prop} {w w' : World} {base mm : Nat} {o : Option SI} (h : OkS w base mm o) (hk : Kept F w w') (hF : ∀ k, foot o k → ¬ F k) : OkS w' base mm o :=
  ⟨fun s hs => (h.sd s hs).kept hk (fun k hp => hF k ⟨s, hs, .inl hp⟩) (fun k hp => hF k ⟨s, hs, .inr hp⟩), h.m⟩
theorem OkS.below {w w' : World} {base mm : Nat} {o : Option SI} (h : OkS w base mm o) (y : Below w.heap.size w w') : OkS w' base mm o := h.kept (F := fun _ => False) (Kept.of_below y) (fun _ _ h => h)
theorem OkS.mono {w : World} {base mm mm' : Nat} {o : Option SI} (h : OkS w base mm o) (hm : mm ≤ mm') : OkS w base mm' o := ⟨h.sd, fun s hs => Nat.le_trans (h.m s hs) hm⟩
theorem OkS.lt {w : World} {base mm : Nat} {o : Option SI} (h : OkS w base mm o) {k : Nat} (hk : foot o k) : base ≤ k ∧ k < w.heap.size := by
  obtain ⟨s, hs, hk⟩ := hk
  have h1 := h.sd s hs
  rcases hk with hk | hk
  · exact ⟨h1.pb k hk, h1.ca.plt hk⟩
  · exact ⟨h1.qb k hk, h1.ra.plt hk⟩
/-- Two sides, the world's lists, the row of sides. -/
structure Pc (w0 : World) (base wb sb : Nat) (cs : Array Value) (sv lv : Value) (D : List LD) (X : Nat → List Value) (p q : Option SI) (mm : Nat) (w : World) : Prop where
  okp : OkS w base mm p
  okq : OkS w base mm q
  ap : ∀ k, foot p k → ¬ foot q k
  wd : Wd w base wb sv lv D X
  dis : ∀ k, foot p k ∨ foot q k → k ≠ wb ∧ ¬ lv.ownBlock = some k ∧ ¬ FutL D 0 k ∧ k ≠ sb
  row : w.heap[sb]? = some (.cells cs 34 (0, 0))
  bel : Below base w0 w
section
variable {w0 w w' : World} {base wb sb : Nat} {cs : Array Value} {sv lv : Value} {D : List LD} {X : Nat → List Value} {p q : Option SI} {mm : Nat}
theorem Pc.swap (h : Pc w0 base wb sb cs sv lv D X p q mm w) : Pc w0 base wb sb cs sv lv D X q p mm w := ⟨h.okq, h.okp, fun k h1 h2 => h.ap k h2 h1, h.wd, fun k hk => h.dis k hk.symm, h.row, h.bel⟩
theorem Pc.below (h : Pc w0 base wb sb cs sv lv D X p q mm w) (hb : base ≤ w.heap.size) (y : Below w.heap.size w w') : Pc w0 base wb sb cs sv lv D X p q mm w' := ⟨h.okp.below y, h.okq.below y, h.ap, h.wd.below y, h.dis, (y.block sb (lt_of_block h.row)).trans h.row, h.bel.trans (y.mono hb)⟩
theorem Pc.mono (h : Pc w0 base wb sb cs sv lv D X p q mm w) {mm' : Nat} (hm : mm ≤ mm') : Pc w0 base wb sb cs sv lv D X p q mm' w := ⟨h.okp.mono hm, h.okq.mono hm, h.ap, h.wd, h.dis, h.row, h.bel⟩
theorem Pc.st {s : SI} (h : Pc w0 base wb sb cs sv lv D X (some s) q mm w) : St w base wb sv lv D X s.a s.x s.S s.M s.N s.m s.P s.Q :=
  ⟨h.okp.sd s rfl, h.wd, fun k hk => by
    obtain ⟨d1, d2, d3, _⟩ := h.dis k (.inl ⟨s, rfl, hk⟩)
    exact ⟨d1, d2, d3⟩⟩
/-- A step on the first side. -/
theorem Pc.step' {s : SI} (h : Pc w0 base wb sb cs sv lv D X (some s) q mm w) (hb : base ≤ w.heap.size) {m' : Nat} {N' : List Nd} (hm : m' ≤ s.m + 1) {lv' : Value} {D' : List LD} {X' : Nat → List Value} {P' Q' : Nat → Prop} (g1 : St w' base wb sv lv' D' X' s.a s.x s.S s.M N' m' P' Q') (g2 : ∀ k, P' k → s.P k ∨ w.heap.size ≤ k) (g3 : ∀ k, Q' k → s.Q k ∨ w.heap.size ≤ k) (g4 : ∀ k, lv'.ownBlock = some k → lv.ownBlock = some k ∨ w.heap.size ≤ k) (g5 : ∀ k, FutL D' 0 k → FutL D 0 k ∨ w.heap.size ≤ k) (g7 : Kept (fun k => s.P k ∨ s.Q k ∨ k = wb ∨ lv.ownBlock = some k) w w') :
    Pc w0 base wb sb cs sv lv' D' X' (some ⟨s.a, s.x, s.S, s.M, N', m', P', Q'⟩) q (mm + 1) w' := by
  have hms := h.okp.m s rfl
  obtain ⟨l1, l2, l3⟩ := h.wd.lt
  have hrow := h.row
  have hsbF : ¬ (s.P sb ∨ s.Q sb ∨ sb = wb ∨ lv.ownBlock = some sb) := fun hF => by
    rcases hF with hF | hF | hF | hF
    · exact (h.dis sb (.inl ⟨s, rfl, .inl hF⟩)).2.2.2 rfl
    · exact (h.dis sb (.inl ⟨s, rfl, .inr hF⟩)).2.2.2 rfl
    · exact blocks_ne h.row h.wd.blk (by decide) hF
    · obtain ⟨cs', h5⟩ := own_ty h.wd.ls.row _ hF
      exact blocks_ne h.row h5 (by decide) rfl
  have hqF : ∀ k, foot q k → ¬ (s.P k ∨ s.Q k ∨ k = wb ∨ lv.ownBlock = some k) := fun k hk hF => by
    obtain ⟨d1, d2, _⟩ := h.dis k (.inr hk)
    rcases hF with hF | hF | hF | hF
    · exact h.ap k ⟨s, rfl, .inl hF⟩ hk
    · exact h.ap k ⟨s, rfl, .inr hF⟩ hk
    · exact d1 hF
    · exact d2 hF
  have hpn : ∀ k, P' k ∨ Q' k → foot (some s) k ∨ w.heap.size ≤ k := fun k hk => by
    rcases hk with hk | hk
    · exact (g2 k hk).imp (fun h => ⟨s, rfl, .inl h⟩) id
    · exact (g3 k hk).imp (fun h => ⟨s, rfl, .inr h⟩) id
  refine ⟨⟨fun t ht => by cases ht; exact g1.sd, fun t ht => by cases ht; simp only; omega⟩, (h.okq.kept g7 hqF).mono (Nat.le_succ _), fun k hk hk2 => ?_, g1.wd, fun k hk => ?_, (g7.block sb (lt_of_block hrow) hsbF).trans hrow, h.bel.trans (g7.below hb (fun k hk => ?_))⟩
  · obtain ⟨t, ht, hk⟩ := hk
    cases ht
    rcases hpn k hk with h5 | h5
    · exact h.ap k h5 hk2
    · have := (h.okq.lt hk2).2; omega
  · rcases hk with ⟨t, ht, hk⟩ | hk
    · cases ht
      obtain ⟨d1, d2, d3⟩ := g1.dis k hk
      refine ⟨d1, d2, d3, fun e => ?_⟩
      rcases hpn k hk with h5 | h5
      · exact (h.dis k (.inl h5)).2.2.2 e
      · have := lt_of_block hrow; omega
    · obtain ⟨d1, d2, d3, d4⟩ := h.dis k (.inr hk)
      have hlt := (h.okq.lt hk).2
      refine ⟨d1, fun hb' => ?_, fun hf => ?_, d4⟩
      · rcases g4 k hb' with h5 | h5
        · exact d2 h5
        · omega
      · rcases g5 k hf with h5 | h5
        · exact d3 h5
        · omega
  · rcases hk with hk | hk | hk | hk
    · exact (h.okp.sd s rfl).pb k hk
    · exact (h.okp.sd s rfl).qb k hk
    · rw [hk]; exact h.wd.bas
    · exact (l2 k hk).1
theorem Pc.step {s : SI} (h : Pc w0 base wb sb cs sv lv D X (some s) q mm w) (hb : base ≤ w.heap.size) {m' : Nat} {N' : List Nd} (hm : m' ≤ s.m + 1) (hs : StK w base wb sv lv D s.a s.x s.S s.M m' s.P s.Q N' w') :
    ∃ lv' D' X' s', s'.a = s.a ∧ s'.x = s.x ∧ s'.N = N' ∧ s'.S = s.S ∧ s'.M = s.M ∧ Pc w0 base wb sb cs sv lv' D' X' (some s') q (mm + 1) w' ∧ D'.length ≤ D.length + 1 := by
  obtain ⟨lv', D', X', P', Q', g1, g2, g3, g4, g5, g6, g7⟩ := hs
  exact ⟨lv', D', X', ⟨s.a, s.x, s.S, s.M, N', m', P', Q'⟩, rfl, rfl, rfl, rfl, rfl, h.step' hb hm g1 g2 g3 g4 g5 g7, g6⟩
/-- Another block beside the sides. -/
theorem Pc.other (h : Pc w0 base wb sb cs sv lv D X p q mm w) {xb : Nat} {cx : Array Value} (hx : ∀ k, foot p k ∨ foot q k → k ≠ xb) (hr : w.heap[xb]? = some (.cells cx 34 (0, 0))) : Pc w0 base wb xb cx sv lv D X p q mm w :=
  ⟨h.okp, h.okq, h.ap, h.wd, fun k hk => ⟨(h.dis k hk).1, (h.dis k hk).2.1, (h.dis k hk).2.2.1, hx k hk⟩, hr, h.bel⟩
/-- Behind owned, the lists are forgotten. -/
theorem Pc.wipe (h : Pc w0 base wb sb cs sv lv D X p q mm w) (hb : base ≤ w.heap.size) (k1 : KpL D w w') : Pc w0 base wb sb cs sv (.slice none 0 0) [] (fun _ => []) p q mm (w'.setCell ⟨wb, 1, none⟩ (.slice none 0 0)) ∧ w'.heap[wb]? = some (.cells #[sv, lv] 38 (0, 0)) := by
  obtain ⟨l1, l2, l3⟩ := h.wd.lt
  have ty3 : ∀ {k : Nat}, FutL D 0 k → ∃ cs, w.heap[k]? = some (.cells cs 3 (0, 0)) := fun ⟨i, hi, _, hk⟩ => own_ty (h.wd.ls.each i hi) _ hk
  have hbw := (k1.block wb l1 (fun hf => by
    obtain ⟨cs', h5⟩ := ty3 hf
    exact blocks_ne h.wd.blk h5 (by decide) rfl)).trans h.wd.blk
  have k3 : Kept (fun k => k = wb) w' (w'.setCell ⟨wb, 1, none⟩ (.slice none 0 0)) := Kept.setCell (F := fun k => k = wb) (p := ⟨wb, 1, none⟩) (Kept.refl _ _) rfl _
  have kk : Kept (fun k => FutL D 0 k ∨ k = wb) w (w'.setCell ⟨wb, 1, none⟩ (.slice none 0 0)) := (Kept.mono k1 (fun _ h => .inl h)).trans (k3.mono (fun _ h => .inr h))
  have hfF : ∀ k, foot p k ∨ foot q k → ¬ (FutL D 0 k ∨ k = wb) := fun k hk hF => by
    obtain ⟨d1, d2, d3, _⟩ := h.dis k hk
    exact hF.elim d3 d1
  have hnf : ∀ k, ¬ FutL [] 0 k := fun k ⟨i, hi, _⟩ => by simp at hi
  refine ⟨⟨h.okp.kept kk (fun k hk => hfF k (.inl hk)), h.okq.kept kk (fun k hk => hfF k (.inr hk)), h.ap, ⟨?_, h.wd.bas, ⟨World.ownsRow_nil _ _ _ _, fun i hi => by simp at hi, List.Pairwise.nil⟩, fun d hd => by simp at hd⟩, fun k hk => ⟨(h.dis k hk).1, fun hb' => (by cases hb'), hnf k, (h.dis k hk).2.2.2⟩, (kk.block sb (lt_of_block h.row) (fun hF => ?_)).trans h.row, h.bel.trans (kk.below hb (fun k hk => ?_))⟩, hbw⟩
  · have := block_setCell hbw 1 (.slice none 0 0)
    simpa using this
  · rcases hF with hF | hF
    · obtain ⟨cs', h5⟩ := ty3 hF
      exact blocks_ne h.row h5 (by decide) rfl
    · exact blocks_ne h.row h.wd.blk (by decide) hF
  · rcases hk with hk | hk
    · exact (l3 k hk).1
    · rw [hk]; exact h.wd.bas
end
/-- What New tells, in one shape. -/
theorem NwL.form {A : List Int} {M : Int} {w w' : World} {e : Ending} {L : Nat → (Nat → Prop) → World → Prop} (h : NwL A M w e w' L) : ∃ (po : Option Addr) (er : Int), e = .returned (.tuple #[.pointer po, .int .i64 er]) := by
  rcases h.1 with ⟨_, _, _, x, P, e, _⟩ | ⟨_, e⟩
  · exact ⟨_, _, e⟩
  · exact ⟨_, _, e⟩
theorem nw_both {A : List Int} {M : Int} {w w1 w2 w3 : World} {base : Nat} {po qo : Option Addr} {e1 e2 : Int} (hb : base ≤ w.heap.size) (y12 : Below w1.heap.size w1 w2)
    (h1 : NwL A M w (.returned (.tuple #[.pointer po, .int .i64 e1])) w1 (fun a P V => CA V a A M [] 0 P)) (h2 : NwL A M w2 (.returned (.tuple #[.pointer qo, .int .i64 e2])) w3 (fun x P V => RA V x A M [] P)) :
    e1 = e2 ∧ ∃ o : Option SI, Value.pointer po = aV o ∧ Value.pointer qo = xV o ∧ OkS w3 base 0 o ∧ (∀ k, foot o k → w.heap.size ≤ k) ∧ (∀ s, o = some s → s.S = A ∧ s.M = M ∧ s.N = [] ∧ SzOk A ∧ 0 ≤ M ∧ M ≤ 8192 ∧ e1 = 0) ∧ (SzOk A → 0 ≤ M → M ≤ 8192 → ∃ s, o = some s) := by
  rcases h1 with ⟨⟨c1, c2, c3, a, P, he, hca, hP⟩ | ⟨c, he⟩, y1⟩
  · rcases h2 with ⟨⟨_, _, _, x, Q, he2, hra, hQ⟩ | ⟨c, _⟩, y2⟩
    · injection he with he; injection he with he; simp at he; obtain ⟨rfl, rfl⟩ := he
      injection he2 with he2; injection he2 with he2; simp at he2; obtain ⟨rfl, rfl⟩ := he2
      refine ⟨rfl, some ⟨a, x, A, M, [], 0, P, Q⟩, rfl, rfl, ⟨fun s hs => ?_, fun s hs => ?_⟩, fun k hk => ?_, fun s hs => ?_, fun _ _ _ => ⟨_, rfl⟩⟩
      · cases hs
        refine ⟨(hca.below y12).below y2, hra, fun k hp hq => ?_, fun k hp => Nat.le_trans hb (hP k hp), fun k hq => Nat.le_trans hb (Nat.le_trans (Nat.le_trans y1.size y12.size) (hQ k hq))⟩
        have := hca.plt hp
        have := hQ k hq
        have := y12.size
        omega
      · cases hs; exact Nat.le_refl _
      · obtain ⟨s, hs, hk⟩ := hk
        cases hs
        rcases hk with hk | hk
        · exact hP k hk
        · exact Nat.le_trans (Nat.le_trans y1.size y12.size) (hQ k hk)
      · cases hs
        exact ⟨rfl, rfl, rfl, c1, c2, c3, rfl⟩
    · exact absurd ⟨c1, c2, c3⟩ c
  · rcases h2 with ⟨⟨d1, d2, d3, _⟩ | ⟨_, he2⟩, y2⟩
    · exact absurd ⟨d1, d2, d3⟩ c
    · injection he with he; injection he with he; simp at he; obtain ⟨rfl, rfl⟩ := he
      injection he2 with he2; injection he2 with he2; simp at he2; obtain ⟨rfl, rfl⟩ := he2
      exact ⟨rfl, none, rfl, rfl, ⟨fun s hs => (by cases hs), fun s hs => (by cases hs)⟩, fun k ⟨s, hs, _⟩ => (by cases hs), fun s hs => (by cases hs), fun a b d => absurd ⟨a, b, d⟩ c⟩
end Go.Proofs.Ytkklphmhbbjmcaa
