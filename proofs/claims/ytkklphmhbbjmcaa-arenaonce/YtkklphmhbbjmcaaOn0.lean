/-
  What ArenaOnce holds: sizes, one side and the world, points in memory. Of the program its types alone; condition: no more lists than a process can hold.
-/
import Derived.Test.YtkklphmhbbjmcaaPl0
import Derived.Test.YtkklphmhbbjmcaaSay
namespace Go.Proofs.Ytkklphmhbbjmcaa
open Go.RowKit Go.Lib Go.Maps

def sz12 (A : List Int) (k : Nat) : List Int := (A.take k).map fun z => 1 + ((pkZ z 4 : Nat) : Int)
theorem sz12_len {A : List Int} {k : Nat} (h : k ≤ A.length) : (sz12 A k).length = k := by simp [sz12]; omega
theorem sz12_snoc {A : List Int} {k : Nat} (h : k < A.length) : sz12 A (k + 1) = sz12 A k ++ [1 + ((pkZ (A.getD k 0) 4 : Nat) : Int)] := by
  unfold sz12
  rw [take_snoc h, List.map_append]
  rfl
theorem sz12_ok {A : List Int} {k : Nat} (h : k ≤ A.length) (h1 : 1 ≤ k) (h2 : k ≤ 12) : SzOk (sz12 A k) := by
  refine ⟨by rw [sz12_len h]; omega, by rw [sz12_len h]; omega, fun s hs => ?_⟩
  unfold sz12 at hs
  obtain ⟨z, _, rfl⟩ := List.mem_map.1 hs
  have := pkZ_lt z (n := 4) (by decide)
  omega
def PO (w0 : World) (base wb sb : Nat) (a x : Nat) (S : List Int) (M : Int) (mm : Nat) (w : World) : Prop :=
  ∃ lv D X s, s.a = a ∧ s.x = x ∧ s.S = S ∧ s.M = M ∧ Pc w0 base wb sb #[.pointer (some ⟨a, 0, none⟩), .pointer (some ⟨x, 0, none⟩)] (.slice (some ⟨sb, 0, none⟩) 1 1) lv D X (some s) none mm w ∧ D.length ≤ mm
section
variable {w0 w w' : World} {base wb sb a x : Nat} {S : List Int} {M : Int} {mm : Nat}
theorem PO.below (h : PO w0 base wb sb a x S M mm w) (hb : base ≤ w.heap.size) (y : Below w.heap.size w w') : PO w0 base wb sb a x S M mm w' := by
  obtain ⟨lv, D, X, s, h1, h2, h3, h4, h5, h6⟩ := h
  exact ⟨lv, D, X, s, h1, h2, h3, h4, h5.below hb y, h6⟩
theorem PO.read (h : PO w0 base wb sb a x S M mm w) : (∃ lv, w.heap[wb]? = some (.cells #[.slice (some ⟨sb, 0, none⟩) 1 1, lv] 38 (0, 0))) ∧ w.heap[sb]? = some (.cells #[.pointer (some ⟨a, 0, none⟩), .pointer (some ⟨x, 0, none⟩)] 34 (0, 0)) ∧ Below base w0 w := by
  obtain ⟨lv, D, X, s, h1, h2, h3, h4, h5, h6⟩ := h
  exact ⟨⟨lv, h5.wd.blk⟩, h5.row, h5.bel⟩
theorem PO.ca (h : PO w0 base wb sb a x S M mm w) : ∃ N m P, CA w a S M N m P ∧ m ≤ mm := by
  obtain ⟨lv, D, X, s, rfl, h2, rfl, rfl, h5, h6⟩ := h
  exact ⟨s.N, s.m, s.P, (h5.okp.sd s rfl).ca, h5.okp.m s rfl⟩
theorem PO.start {s : SI} (ha : s.a = a) (hx : s.x = x) (hS : s.S = S) (hM : s.M = M) (h0 : OkS w base 0 (some s)) (hb : base ≤ w.heap.size) (y : Below base w0 w) :
    PO w0 base (w.heap.size + 1) w.heap.size a x S M 0 ((w.alloc (.cells #[.pointer (some ⟨a, 0, none⟩), .pointer (some ⟨x, 0, none⟩)] 34)).alloc (.cells #[.slice (some ⟨w.heap.size, 0, none⟩) 1 1, .slice none 0 0] 38)) := by
  obtain ⟨y3, b1', b2⟩ : Below w.heap.size w ((w.alloc (.cells #[.pointer (some ⟨a, 0, none⟩), .pointer (some ⟨x, 0, none⟩)] 34)).alloc (.cells #[.slice (some ⟨w.heap.size, 0, none⟩) 1 1, .slice none 0 0] 38)) ∧ ((w.alloc (.cells #[.pointer (some ⟨a, 0, none⟩), .pointer (some ⟨x, 0, none⟩)] 34)).alloc (.cells #[.slice (some ⟨w.heap.size, 0, none⟩) 1 1, .slice none 0 0] 38)).heap[w.heap.size]? = some (.cells #[.pointer (some ⟨a, 0, none⟩), .pointer (some ⟨x, 0, none⟩)] 34 (0, 0)) ∧ ((w.alloc (.cells #[.pointer (some ⟨a, 0, none⟩), .pointer (some ⟨x, 0, none⟩)] 34)).alloc (.cells #[.slice (some ⟨w.heap.size, 0, none⟩) 1 1, .slice none 0 0] 38)).heap[w.heap.size + 1]? = some (.cells #[.slice (some ⟨w.heap.size, 0, none⟩) 1 1, .slice none 0 0] 38 (0, 0)) := by
    generalize (#[.pointer (some ⟨a, 0, none⟩), .pointer (some ⟨x, 0, none⟩)] : Array Value) = cs
    generalize (#[.slice (some ⟨w.heap.size, 0, none⟩) 1 1, .slice none 0 0] : Array Value) = cs2
    have y1 : Below w.heap.size w (w.alloc (.cells cs 34)) := al (Below.refl _ _) _
    have b1 := heap_alloc_new w (.cells cs 34)
    have y2 : Below (w.alloc (.cells cs 34)).heap.size (w.alloc (.cells cs 34)) ((w.alloc (.cells cs 34)).alloc (.cells cs2 38)) := al (Below.refl _ _) _
    have b2 := heap_alloc_new (w.alloc (.cells cs 34)) (.cells cs2 38)
    rw [show (w.alloc (.cells cs 34)).heap.size = w.heap.size + 1 by simp] at b2
    exact ⟨bt y1 y2 (Nat.le_refl _), (y2.block w.heap.size (lt_of_block b1)).trans b1, b2⟩
  have hnf : ∀ k, ¬ FutL [] 0 k := fun k ⟨i, hi, _⟩ => by simp at hi
  refine ⟨.slice none 0 0, [], fun _ => [], s, ha, hx, hS, hM, ⟨h0.below y3, ⟨fun t ht => (by cases ht), fun t ht => (by cases ht)⟩, fun k _ ⟨t, ht, _⟩ => (by cases ht), ⟨b2, by omega, ⟨World.ownsRow_nil _ _ _ _, fun i hi => by simp at hi, List.Pairwise.nil⟩, fun d hd => by simp at hd⟩, fun k hk => ?_, b1', y.trans (y3.mono hb)⟩, Nat.le_refl _⟩
  have : k < w.heap.size := hk.elim (fun h => (h0.lt h).2) (fun ⟨t, ht, _⟩ => by cases ht)
  exact ⟨by omega, fun hb' => (by cases hb'), hnf k, by omega⟩
theorem PO.step (o : OpZ) (h : PO w0 base wb sb a x S M mm w) (ho : OpOk w o) (hob : ∀ b off, o.ka = some ⟨b, off, none⟩ → o.K ≠ [] → b < base) (hb : base ≤ w.heap.size) (hm : mm ≤ 2932031007402) :
    Calls Try.prog 8 #[.pointer (some ⟨wb, 0, none⟩), .agg #[.pointer (some ⟨a, 0, none⟩), .pointer (some ⟨x, 0, none⟩)], .agg (opC o)] w fun e w' => e = .returned (.bool true) ∧ PO w0 base wb sb a x S M (mm + 1) w' := by
  obtain ⟨lv, D, X, s, rfl, rfl, rfl, rfl, h5, h6⟩ := h
  have hms := h5.okp.m s rfl
  refine (step_any o h5.st ho hob hb (by omega) (by omega)).mono ?_
  rintro e w' ⟨rfl, N', hK⟩
  obtain ⟨lv', D', X', s', e1, e2, e3, e4, e5, h8, h9⟩ := h5.step hb (Nat.le_refl _) hK
  exact ⟨rfl, lv', D', X', s', e1, e2, e4, e5, h8, by omega⟩
end
/-- Points in memory. -/
structure PZ where
  pa : Option Addr
  L : List Int
  pc : Nat
structure PtOk (w : World) (o : PZ) : Prop where
  fit : ∀ z ∈ o.L, Fit z
  at_ : ZAt w o.pa o.L
  few : o.L.length ≤ 17592186043904
theorem PtOk.below {w w' : World} {o : PZ} (h : PtOk w o) (x : Below w.heap.size w w') : PtOk w' o := ⟨h.fit, h.at_.below x, h.few⟩
def PtAt (w : World) (so : Option Addr) (T : List PZ) : Prop := T = [] ∨ ∃ b off, so = some ⟨b, off, none⟩ ∧ b < w.heap.size ∧ ∀ i (h : i < T.length), w.cell? ⟨b, off + i, none⟩ = some (.slice T[i].pa T[i].L.length T[i].pc) ∧ PtOk w T[i]
theorem PtAt.get {w : World} {so : Option Addr} {T : List PZ} (h : PtAt w so T) {i : Nat} (hi : i < T.length) : ∃ b off, so = some ⟨b, off, none⟩ ∧ b < w.heap.size ∧ w.cell? ⟨b, off + i, none⟩ = some (.slice T[i].pa T[i].L.length T[i].pc) ∧ PtOk w T[i] := by
  rcases h with h | ⟨b, off, e, hb, h⟩
  · rw [h] at hi; simp at hi
  · exact ⟨b, off, e, hb, (h i hi).1, (h i hi).2⟩
/-- A node more. -/
theorem NR.push {w w' : World} {base : Nat} {nv nv' : Value} {R : List ND} {x : ND} (h : NR w base nv R) (hz : ZBk w x.kb x.ks) (h1 : w'.ownsRow base 47 2 nv' (R.length + 1) (ndC R ++ [.int .i64 x.lv, .slice (some ⟨x.kb, 0, none⟩) x.ks.length x.kc])) (h2 : AppAt w w' nv nv') : NR w' base nv' (R ++ [x]) := by
  have hk := appK h2
  have hne : ∀ {y : ND}, ZBk w y.kb y.ks → ZBk w' y.kb y.ks := fun hy => hy.kept hk (fun hF => by
    obtain ⟨cs, h5⟩ := own_ty h.row _ hF
    obtain ⟨cs', h6, _⟩ := hy
    exact blocks_ne h6 h5 (by decide) rfl)
  refine ⟨?_, fun y hy => ?_⟩
  · rw [List.length_append, ndC_append]
    exact h1
  · rcases List.mem_append.1 hy with hy | hy
    · exact hne (h.kid y hy)
    · rw [List.mem_singleton.1 hy]; exact hne hz
theorem NdL.at_ {N : List Nd} {k : Nat} {w w' : World} {e : Ending} {lv : Int} {ks : List Int} (h : NdL N ((k : Int) + 2) w e w') (hk : N[k]? = some (lv, ks)) : ∃ g c, e = .returned (.tuple #[.agg #[.int .i64 lv, .slice (some ⟨g, 0, none⟩) ks.length c], .int .i64 0]) ∧ ZBk w' g ks ∧ Below w.heap.size w w' := by
  obtain ⟨h1, h2⟩ := h
  rcases h1 with ⟨i, lv', ks', g, c, hi, hf, rfl, ho, hz, _⟩ | ⟨hc, _⟩
  · have : i = k := by omega
    subst this
    rw [hk] at hi
    simp only [Option.some.injEq, Prod.mk.injEq] at hi
    obtain ⟨rfl, rfl⟩ := hi
    exact ⟨g, c, rfl, hz, h2⟩
  · have := at_lt hk
    exact absurd ⟨by omega, by omega⟩ hc
def oneTo (ks : List Int) (c : Nat) : Bool := (ks.take c).all fun f => f == ks.getD 0 0
theorem oneTo_zero (ks : List Int) : oneTo ks 0 = true := by simp [oneTo]
theorem oneTo_succ {ks : List Int} {c : Nat} (hc : c < ks.length) : oneTo ks (c + 1) = (oneTo ks c && (ks.getD c 0 == ks.getD 0 0)) := by
  unfold oneTo
  rw [take_snoc hc, List.all_append]
  simp
theorem oneTo_all {ks : List Int} (h : ¬ One ks) : oneTo ks ks.length = false := by
  unfold oneTo
  rw [List.take_length]
  cases e : ks.all fun f => f == ks.getD 0 0
  · rfl
  · exact absurd (fun f hf => by simpa using List.all_eq_true.1 e f hf) h
/-- What is known of a node of an arena. -/
theorem Ok.node {S : List Int} {M : Int} {N : List Nd} (h : Ok S M N) {k : Nat} (hk : k < N.length) : ∃ (lvn : Nat) (ks : List Int), N[k]? = some ((lvn : Int), ks) ∧ lvn < S.length ∧ S.getD lvn 0 = (ks.length : Int) ∧ 1 ≤ ks.length ∧ ks.length ≤ 256 ∧ ¬ One ks ∧ ∀ c, c < ks.length → 0 ≤ ks.getD c 0 ∧ ks.getD c 0 < (k : Int) + 2 ∧ (lvn : Int) < lvl S N (ks.getD c 0) := by
  obtain ⟨h1, h2⟩ := h.each k hk
  have h3 := h1.ge
  have h4 := h1.lt
  have h5 := h1.len
  have hf := h.few
  have hm := h.m1
  have hr := (h1.rng (N := N.take k) h (by rw [List.length_take]; omega)).2.2
  refine ⟨(N[k]).1.toNat, (N[k]).2, ?_, by omega, h5.symm, hr.2, hr.1, h2, fun c hc => ?_⟩
  · rw [List.getElem?_eq_getElem hk, Int.toNat_of_nonneg h3]
  · have hmem : (N[k]).2.getD c 0 ∈ (N[k]).2 := by
      rw [List.getD_eq_getElem?_getD, List.getElem?_eq_getElem hc]
      exact List.getElem_mem _
    obtain ⟨h6, h7⟩ := h1.kid _ hmem
    rw [lvl_take h6] at h7
    unfold hasR at h6
    rw [List.length_take] at h6
    refine ⟨h6.1, by omega, by omega⟩
theorem MkL.there {S : List Int} {M : Int} {N : List Nd} {lv : Int} {ks : List Int} {w w' : World} {e : Ending} {L : List Nd → (Nat → Prop) → World → Prop} {P : Nat → Prop} {k : Nat} (h : MkL S M N lv ks w e w' L P) (hok : Ok S M N) (hk : N[k]? = some (lv, ks)) : e = .returned (.tuple #[.int .i64 ((k : Int) + 2), .int .i64 0]) ∧ Below w.heap.size w w' := by
  obtain ⟨f, er, N', rfl, hmk, P', h1, h2, h3, h4⟩ := h
  have hlt := at_lt hk
  have e1 : N[k] = (lv, ks) := by rw [List.getElem?_eq_getElem hlt] at hk; exact Option.some.inj hk
  have h5 := hok.may hlt
  have h6 := (hok.each k hlt).2
  rw [e1] at h5 h6
  obtain ⟨rfl, rfl, rfl⟩ := MkP.one hok.nod hmk (.inr (.inr (.inl ⟨h5, h6, ⟨k, hk, rfl⟩, rfl, rfl⟩)) : MkP S M N lv ks ((k : Int) + 2) 0 N)
  exact ⟨rfl, h4 rfl⟩
theorem nd_at {R : List ND} {N : List Nd} {k i : Nat} (h : R.map ND.nd = N.take k) (hi : i < R.length) : N[i]? = some ((R[i]).lv, (R[i]).ks) := by
  have h1 : (R.map ND.nd)[i]? = some ((R[i]).lv, (R[i]).ks) := by rw [List.getElem?_map, List.getElem?_eq_getElem hi]; rfl
  rw [h] at h1
  rw [List.getElem?_take] at h1
  split at h1
  · exact h1
  · cases h1
end Go.Proofs.Ytkklphmhbbjmcaa
