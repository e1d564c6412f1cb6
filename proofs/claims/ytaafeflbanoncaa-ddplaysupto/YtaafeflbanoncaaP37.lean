/-
  A region that draws its order: an operation whose guard says no. Of no program: no condition.
-/
import Derived.Test.YtaafeflbanoncaaP04
import Derived.Test.YtaafeflbanoncaaP22
import Derived.Test.YtaafeflbanoncaaP36
import Derived.Test.YtaafeflbanoncaaP27
import Derived.Deep.DeepCutAuto
import Derived.Deep.CutBlock
import Derived.Test.YtaafeflbanoncaaP06
import Derived.Laws.CopyOwn
namespace Go.Proofs.Ytaafeflbanoncaa
open Go.RowKit Go.Lib

section
variable {P : Program} {ops : Array Oper} {Q : Exit → Act → World → Prop} {md : Region.Mode} {S : World → Prop} {z : Nat}
/-- One whose guard says no is passed by first. -/
theorem UntH.skip {i n : Nat} {oi : Oper} {done : Array Bool} {a : Act} {w : World} (d : Option Nat) (hi : ops[i]? = some oi) (hd : oi.dst = d) (hz : upOk md ops done i z (upOf md ops i) = true) (hs : Region.noSelect ops = true) (hf : Region.free md ops done i = true) (hr : (Region.ready md ops done).contains i = true)
    (hQ : ∀ v c a w, Q (.panic c) (a.put oi.dst v) w → Q (.panic c) a w) (hw : Region.wanted oi (yielded ops a.tmps) = false) (hS : S w) (h2 : UntH P md ops Q S z n (done.setIfInBounds i true) (a.put d undef) w) : UntH P md ops Q S z (n + 1) done a w := by
  rw [← hd] at h2
  revert hz
  generalize upOf md ops i = C
  intro hz
  simp only [upOk, Bool.and_eq_true, List.all_eq_true, Bool.not_eq_true', List.contains_iff_mem] at hz
  obtain ⟨⟨hz1, hz2⟩, hz3⟩ := hz
  refine UntH.first (C := C) hi hz1 ?_ ?_ (Region.noSelect_spec hs) (hQ undef) n done a w (fun c hc => (hz3 c hc).1) (Region.free_spec hi hf) (by simpa using hr) (.inr ⟨hw, rfl⟩) hS h2
  · intro h0
    rw [List.contains_iff_mem.2 h0] at hz2
    cases hz2
  · intro c hc
    have h3 := (hz3 c hc).2
    cases ho : ops[c]? with
    | none => rw [ho] at h3; cases h3
    | some o =>
      rw [ho] at h3
      obtain ⟨k, hk, e⟩ := Array.any_eq_true.1 h3
      simp only [Bool.and_eq_true, Bool.or_eq_true, beq_iff_eq, List.contains_iff_mem] at e
      exact ⟨o, rfl, o.after[k], Array.getElem_mem hk, e.1, e.2⟩
end
end Go.Proofs.Ytaafeflbanoncaa
/-
  A step of a script in its box; what it brings. No condition.
-/
namespace Go.Proofs.Ytaafeflbanoncaa
open Go.RowKit Go.Lib Go.Maps

/-- A step's box. -/
def Bx (w : World) (b : Nat) (nr : Bool) (wh f g h l c : Int) (iv cv : Value) : Prop := w.heap[b]? = some (.cells #[.bool nr, .int .i64 wh, .int .i64 f, .int .i64 g, .int .i64 h, .int .i64 l, .int .i64 c, iv, cv] 38 (0, 0))
section
variable {w w' : World} {b : Nat} {nr : Bool} {wh f g h l c : Int} {iv cv : Value}
theorem Bx.cells (x : Bx w b nr wh f g h l c iv cv) : w.cell? ⟨b, 0, none⟩ = some (.bool nr) ∧ w.cell? ⟨b, 1, none⟩ = some (.int .i64 wh) ∧ w.cell? ⟨b, 2, none⟩ = some (.int .i64 f) ∧ w.cell? ⟨b, 3, none⟩ = some (.int .i64 g) ∧ w.cell? ⟨b, 4, none⟩ = some (.int .i64 h) ∧ w.cell? ⟨b, 5, none⟩ = some (.int .i64 l) ∧ w.cell? ⟨b, 6, none⟩ = some (.int .i64 c) ∧ w.cell? ⟨b, 7, none⟩ = some iv ∧ w.cell? ⟨b, 8, none⟩ = some cv := by
  refine ⟨?_, ?_, ?_, ?_, ?_, ?_, ?_, ?_, ?_⟩ <;> (rw [cell_of_row w b _ _ _ _ x]; rfl)
theorem Bx.fro (x : Bx w b nr wh f g h l c iv cv) (k : Nat) : w.frozen? ⟨b, k, none⟩ = false := frozen_of_row w b k _ _ x
theorem Bx.below (x : Bx w b nr wh f g h l c iv cv) (y : Below w.heap.size w w') : Bx w' b nr wh f g h l c iv cv := (y.block b (lt_of_block x)).trans x
theorem Bx.kept {K : Nat → Prop} (x : Bx w b nr wh f g h l c iv cv) (y : Kept K w w') (hK : ¬ K b) : Bx w' b nr wh f g h l c iv cv := (y.block b (lt_of_block x) hK).trans x
theorem Bx.setF (x : Bx w b nr wh f g h l c iv cv) (v : Int) : Bx (w.setCell ⟨b, 2, none⟩ (.int .i64 v)) b nr wh v g h l c iv cv := by
  unfold Bx
  rw [block_setCell x 2]
  rfl
theorem Bx.setG (x : Bx w b nr wh f g h l c iv cv) (v : Int) : Bx (w.setCell ⟨b, 3, none⟩ (.int .i64 v)) b nr wh f v h l c iv cv := by
  unfold Bx
  rw [block_setCell x 3]
  rfl
theorem Bx.setH (x : Bx w b nr wh f g h l c iv cv) (v : Int) : Bx (w.setCell ⟨b, 4, none⟩ (.int .i64 v)) b nr wh f g v l c iv cv := by
  unfold Bx
  rw [block_setCell x 4]
  rfl
theorem Bx.setL (x : Bx w b nr wh f g h l c iv cv) (v : Int) : Bx (w.setCell ⟨b, 5, none⟩ (.int .i64 v)) b nr wh f g h v c iv cv := by
  unfold Bx
  rw [block_setCell x 5]
  rfl
theorem Bx.setC (x : Bx w b nr wh f g h l c iv cv) (v : Int) : Bx (w.setCell ⟨b, 6, none⟩ (.int .i64 v)) b nr wh f g h l v iv cv := by
  unfold Bx
  rw [block_setCell x 6]
  rfl
theorem Bx.setI (x : Bx w b nr wh f g h l c iv cv) (v : Value) : Bx (w.setCell ⟨b, 7, none⟩ v) b nr wh f g h l c v cv := by
  unfold Bx
  rw [block_setCell x 7]
  rfl
theorem Bx.setS (x : Bx w b nr wh f g h l c iv cv) (v : Value) : Bx (w.setCell ⟨b, 8, none⟩ v) b nr wh f g h l c iv v := by
  unfold Bx
  rw [block_setCell x 8]
  rfl
theorem two_blk (w : World) (c d : Array Value) (t : TypeId) : Below w.heap.size w ((w.alloc (.cells c t)).alloc (.cells d t)) ∧ ((w.alloc (.cells c t)).alloc (.cells d t)).heap[w.heap.size]? = some (.cells c t (0, 0)) ∧ ((w.alloc (.cells c t)).alloc (.cells d t)).heap[w.heap.size + 1]? = some (.cells d t (0, 0)) := by
  have y1 : Below w.heap.size w (w.alloc (.cells c t)) := al (Below.refl _ _) _
  have b1 : (w.alloc (.cells c t)).heap[w.heap.size]? = some (.cells c t (0, 0)) := heap_alloc_new w _
  have s1 : (w.alloc (.cells c t)).heap.size = w.heap.size + 1 := by simp
  generalize w.alloc (.cells c t) = w1 at *
  have y2 : Below w1.heap.size w1 (w1.alloc (.cells d t)) := al (Below.refl _ _) _
  have b2 : (w1.alloc (.cells d t)).heap[w1.heap.size]? = some (.cells d t (0, 0)) := heap_alloc_new w1 _
  rw [s1] at b2
  exact ⟨bt y1 y2 (Nat.le_refl _), (y2.block _ (by omega)).trans b1, b2⟩
end
/-- A step and what it brings. -/
structure OpIn (w : World) (z : OpZ) (IN : List Bool) (CS : List Int) : Prop where
  ff : Fit z.f
  fg : Fit z.g
  fh : Fit z.h
  fl : Fit z.l
  fc : Fit z.c
  il : z.il = IN.length
  ia : BAt w z.ia IN
  ile : IN.length ≤ 140737488351232
  cl : z.cl = CS.length
  ca : ZAt w z.ca CS
  cf : ∀ k ∈ CS, Fit k
  cle : CS.length ≤ 17592186043904
theorem OpIn.below {w w' : World} {z : OpZ} {IN : List Bool} {CS : List Int} (h : OpIn w z IN CS) (x : Below w.heap.size w w') : OpIn w' z IN CS := ⟨h.ff, h.fg, h.fh, h.fl, h.fc, h.il, h.ia.below x, h.ile, h.cl, h.ca.below x, h.cf, h.cle⟩
/-- A step whose numbers are of what is there. -/
structure OpNr (w : World) (S : List Int) (N : List Nd) (z z2 : OpZ) (IN : List Bool) (CS : List Int) (lN cN : Nat) : Prop where
  near : z2.near = z.near
  what : z2.what = z.what
  f : hasR N z2.f
  g : hasR N z2.g
  h : hasR N z2.h
  l : z2.l = (lN : Int)
  lt : lN < S.length
  c : z2.c = (cN : Int)
  clt : (cN : Int) < S.getD lN 0
  inl : (IN.length : Int) = S.getD lN 0
  il : z2.il = IN.length
  ia : BAt w z2.ia IN
  cl : z2.cl = CS.length
  ca : ZAt w z2.ca CS
  pt : PtL S CS
theorem own_bat {w : World} {base : Nat} {v : Value} {L : List Bool} (h : w.ownsRow base 4 1 v L.length (bC L)) : ∃ ao cap, v = .slice ao L.length cap ∧ BAt w ao L := by
  obtain ⟨ao, cap, hv, _⟩ := own_shape h
  by_cases h0 : 0 < L.length
  · obtain ⟨g, cap2, hv2, _, hb⟩ := own_bbk h h0
    exact ⟨_, _, hv2, hb.at⟩
  · exact ⟨ao, cap, hv, .inl (List.eq_nil_of_length_eq_zero (by omega))⟩
theorem own_zat {w : World} {base : Nat} {v : Value} {L : List Int} (h : w.ownsRow base 3 1 v L.length (zC L)) : ∃ ao cap, v = .slice ao L.length cap ∧ ZAt w ao L := by
  obtain ⟨ao, cap, hv, _⟩ := own_shape h
  by_cases h0 : 0 < L.length
  · obtain ⟨g, cap2, hv2, _, hb⟩ := own_blk h h0
    exact ⟨_, _, hv2, hb.at⟩
  · exact ⟨ao, cap, hv, .inl (List.eq_nil_of_length_eq_zero (by omega))⟩
end Go.Proofs.Ytaafeflbanoncaa
/-
  copy of elements of several cells: the run equation and a step of the walk.
-/
namespace Go.Proofs.Ytaafeflbanoncaa
open Go.RowKit Go.Lib

theorem run_copy_wide {P : Program} (w : World) (dT sT ty elem : TypeId) (size g o dLen dCap : Nat) (a : Addr) (sLen sCap : Nat) (cur : Array Value) (t : TypeId) (cs : List Value)
    (hu : P.underlying dT = some (.slice elem)) (hs : (P.info? elem).map (·.size) = some size)
    (hg : w.heap[g]? = some (.cells cur t (0, 0))) (hn : cs.length = Nat.min sLen dLen * size)
    (hsrc : ∀ j v, cs[j]? = some v → w.cell? (a.add j) = some v) (hfit : o + cs.length ≤ cur.size) (h1 : ∀ v ∈ cs, v.oneCell' = true) :
    (Builtin.copy_ #[dT, sT] ty #[.slice (some ⟨g, o, none⟩) dLen dCap, .slice (some a) sLen sCap]).run P w =
      .ok (goInt (Nat.min sLen dLen)) (w.setRow g (cur.toList.take o ++ cs ++ cur.toList.drop (o + cs.length)).toArray) := by
  have hl := run_loadCells_list (P := P) w a cs hsrc
  have hst := run_storeCells_at P g o t cs 0 cur w hg (by simpa using hfit) h1
  cases hq : P.info? elem with
  | none => simp [hq] at hs
  | some i =>
    have hi : i.size = size := by simpa [hq] using hs
    simp only [Nat.add_zero] at hst
    simp [Builtin.copy_, run_underlying hu, Builtin.lenOf, Builtin.firstCells, sizeOf, typeInfo, hq, hi, ← hn, hl, hst]
theorem run_copy_empty {P : Program} (w : World) (dT sT ty elem : TypeId) (size : Nat) (a : Addr) (dLen dCap sCap : Nat) (hu : P.underlying dT = some (.slice elem)) (hs : (P.info? elem).map (·.size) = some size) :
    (Builtin.copy_ #[dT, sT] ty #[.slice (some a) dLen dCap, .slice none 0 sCap]).run P w = .ok (goInt 0) w := by
  cases hq : P.info? elem with
  | none => simp [hq] at hs
  | some i => simp [Builtin.copy_, run_underlying hu, Builtin.lenOf, Builtin.firstCells, sizeOf, typeInfo, hq, storeCells]
theorem wpList_copy_wide {P : Program} {w : World} {ops : Array Oper} {rest : List Oper} {o : Oper} {a : Act} {Q : Exit → Act → World → Prop} (hgd : o.guard = none) (d s : Operand) (dT sT : TypeId)
    (ho : o.op = .call { callee := .builtin .copy, args := #[d, s], argTypes := #[dT, sT] }) (elem : TypeId) (size : Nat) (hu : P.underlying dT = some (.slice elem)) (hsz : (P.info? elem).map (·.size) = some size)
    (g dLen dCap : Nat) (sp : Option Addr) (sLen sCap : Nat) (hd : a.eval d = .slice (some ⟨g, 0, none⟩) dLen dCap) (hs : a.eval s = .slice sp sLen sCap)
    (cur : Array Value) (t : TypeId) (hg : w.heap[g]? = some (.cells cur t (0, 0))) (cs : List Value) (hn : cs.length = sLen * size) (hle : sLen ≤ dLen) (hnil : sp = none → sLen = 0)
    (hsrc : ∀ ad, sp = some ad → ∀ j v, cs[j]? = some v → w.cell? (ad.add j) = some v) (hfit : cs.length ≤ cur.size) (h1 : ∀ v ∈ cs, v.oneCell' = true)
    (h : wpList P ops Q rest (a.put o.dst (goInt sLen)) (w.setRow g (cs ++ cur.toList.drop cs.length).toArray)) : wpList P ops Q (o :: rest) a w := by
  refine wpList_plain hgd fun K hK => ?_
  have hrun : (Builtin.copy_ #[dT, sT] o.type #[.slice (some ⟨g, 0, none⟩) dLen dCap, .slice sp sLen sCap]).run P w = .ok (goInt sLen) (w.setRow g (cs ++ cur.toList.drop cs.length).toArray) := by
    cases sp with
    | none =>
      have h0 := hnil rfl
      subst h0
      have hc : cs = [] := List.length_eq_zero_iff.1 (by omega)
      subst hc
      rw [run_copy_empty w dT sT o.type elem size _ dLen dCap sCap hu hsz]
      simp only [List.nil_append, List.length_nil, List.drop_zero, Array.toArray_toList]
      rw [setRow_self w g cur t (0, 0) hg]
      rfl
    | some ad =>
      have hmin : Nat.min sLen dLen = sLen := Nat.min_eq_left hle
      have := run_copy_wide (P := P) w dT sT o.type elem size g 0 dLen dCap ad sLen sCap cur t cs hu hsz hg (by rw [hmin]; exact hn) (hsrc ad rfl) (by omega) h1
      rw [this, hmin]
      simp
  unfold Oper.wp
  simp [execOp, ho, resolve, invoke, builtin, hd, hs, hrun, Result.andThen]
  exact hK _ _ h
end Go.Proofs.Ytaafeflbanoncaa
