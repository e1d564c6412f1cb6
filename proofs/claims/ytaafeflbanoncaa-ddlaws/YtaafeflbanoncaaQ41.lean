/-
  Both arenas' calls, by what they say of the list of nodes. Condition: lists no longer than a process can hold.
-/
import Derived.Test.YtaafeflbanoncaaQ12
import Derived.Test.YtaafeflbanoncaaQ38
import Derived.Test.YtaafeflbanoncaaQ39
import Derived.Test.YtaafeflbanoncaaQ40
import Derived.Test.YtaafeflbanoncaaQ03
import Derived.Test.YtaafeflbanoncaaQ29
import Derived.Test.YtaafeflbanoncaaQ34
import Derived.Deep.DeepCutAuto
import Derived.Deep.CutBlock
namespace Go.Proofs.Ytaafeflbanoncaa
open Go.RowKit Go.Lib Go.Maps

section
variable {w w' : World} {a x : Nat} {S : List Int} {M : Int} {N : List Nd} {m : Nat} {P Q : Nat → Prop}
theorem RA.make (h : RA w x S M N Q) (lv : Int) (ao : Option Addr) (cap : Nat) (A : List Int) (hl : A.length ≤ 140737488351232) (hz : ZAt w ao A) :
    Calls Try.prog 22 #[.pointer (some ⟨x, 0, none⟩), .int .i64 lv, .slice ao A.length cap] w fun e w' => MkL S M N lv A w e w' (fun N' P' V => RA V x S M N' P') Q := by
  obtain ⟨R, sb, sc, nv, lvv, LV, h1, rfl⟩ := h
  exact makeD_any lv ao cap A hl hz h1
theorem RA.node (h : RA w x S M N Q) (f : Int) : Calls Try.prog 45 #[.pointer (some ⟨x, 0, none⟩), .int .i64 f] w fun e w' => NdL N f w e w' := by
  obtain ⟨R, sb, sc, nv, lvv, LV, h1, rfl⟩ := h
  exact nodeD_any f h1
theorem RA.level (h : RA w x S M N Q) (f : Int) : Calls Try.prog 53 #[.pointer (some ⟨x, 0, none⟩), .int .i64 f] w fun e w' => e = .returned (.int .i64 (lvl S N f)) ∧ w' = w := by
  obtain ⟨R, sb, sc, nv, lvv, LV, h1, rfl⟩ := h
  exact levelD_any f h1
theorem RA.has (h : RA w x S M N Q) (f : Int) : Calls Try.prog 52 #[.pointer (some ⟨x, 0, none⟩), .int .i64 f] w fun e w' => e = .returned (.bool (hasN N.length f)) ∧ w' = w := by
  obtain ⟨R, sb, sc, nv, lvv, LV, h1, rfl⟩ := h
  rw [List.length_map]
  exact hasD_any f h1
theorem RA.len (h : RA w x S M N Q) : Calls Try.prog 10 #[.pointer (some ⟨x, 0, none⟩)] w fun e w' => e = .returned (.int .i64 (N.length : Int)) ∧ w' = w := by
  obtain ⟨R, sb, sc, nv, lvv, LV, h1, rfl⟩ := h
  rw [List.length_map]
  exact lenD_any h1
theorem RA.back (h : RA w x S M N Q) (n : Int) : Calls Try.prog 19 #[.pointer (some ⟨x, 0, none⟩), .int .i64 n] w fun e w' => BkL N n w e w' (fun N' V => RA V x S M N' Q) Q := by
  obtain ⟨R, sb, sc, nv, lvv, LV, h1, rfl⟩ := h
  exact backD_any n h1
/-- The document's sizes and most, read from its own fields. -/
theorem RA.fields (h : RA w x S M N Q) : ∃ sb sc, w.cell? ⟨x, 0, none⟩ = some (.slice (some ⟨sb, 0, none⟩) S.length sc) ∧ w.cell? ⟨x, 1, none⟩ = some (.int .i64 M) ∧ ZBk w sb S ∧ x < w.heap.size := by
  obtain ⟨R, sb, sc, nv, lvv, LV, h1, rfl⟩ := h
  exact ⟨sb, sc, h1.cells.1, h1.cells.2.1, h1.sz, lt_of_block h1.blk⟩
end
end Go.Proofs.Ytaafeflbanoncaa
/-
  A region that draws its order: an operation whose guard says no. Of no program: no condition.
-/
namespace Go.Proofs.Ytaafeflbanoncaa
open Go.RowKit Go.Lib

section
variable {P : Program} {ops : Array Oper} {Q : Exit → Act → World → Prop} {md : Region.Mode} {S : World → Prop} {z : Nat}
/-- One whose guard says no is passed by first. -/
theorem UntH.skip {i n : Nat} {oi : Oper} {done : Array Bool} {a : Act} {w : World} (d : Option Nat) (hi : ops[i]? = some oi) (hd : oi.dst = d) (hz : upOk md ops done i z (upOf md ops i) = true) (hs : Region.noSelect ops = true) (hf : Region.free md ops done i = true) (hr : (Region.ready md ops done).contains i = true)
    (hQ : ∀ v c a w, Q (.panic c) (a.put oi.dst v) w → Q (.panic c) a w) (hw : Region.wanted oi (yielded ops a.tmps) = false) (hS : S w) (h2 : UntH P md ops Q S z n (done.setIfInBounds i true) (a.put d undef) w) : UntH P md ops Q S z (n + 1) done a w := by
  rw [← hd] at h2
  revert hz
  generalize upOf md ops i = C
  intro hz
  simp only [upOk, Bool.and_eq_true, List.all_eq_true, Bool.not_eq_true', List.contains_iff_mem] at hz
  obtain ⟨⟨hz1, hz2⟩, hz3⟩ := hz
  refine UntH.first (C := C) hi hz1 ?_ ?_ (Region.noSelect_spec hs) (hQ undef) n done a w (fun c hc => (hz3 c hc).1) (Region.free_spec hi hf) (by simpa using hr) (.inr ⟨hw, rfl⟩) hS h2
  · intro h0
    rw [List.contains_iff_mem.2 h0] at hz2
    cases hz2
  · intro c hc
    have h3 := (hz3 c hc).2
    cases ho : ops[c]? with
    | none => rw [ho] at h3; cases h3
    | some o =>
      rw [ho] at h3
      obtain ⟨k, hk, e⟩ := Array.any_eq_true.1 h3
      simp only [Bool.and_eq_true, Bool.or_eq_true, beq_iff_eq, List.contains_iff_mem] at e
      exact ⟨o, rfl, o.after[k], Array.getElem_mem hk, e.1, e.2⟩
end
end Go.Proofs.Ytaafeflbanoncaa
/-
  A step of a script in its box; what it brings. No condition.
-/
namespace Go.Proofs.Ytaafeflbanoncaa
open Go.RowKit Go.Lib Go.Maps

/-- A step's box. -/
def Bx (w : World) (b : Nat) (nr : Bool) (wh f g h l c : Int) (iv cv : Value) : Prop := w.heap[b]? = some (.cells #[.bool nr, .int .i64 wh, .int .i64 f, .int .i64 g, .int .i64 h, .int .i64 l, .int .i64 c, iv, cv] 38 (0, 0))
section
variable {w w' : World} {b : Nat} {nr : Bool} {wh f g h l c : Int} {iv cv : Value}
theorem Bx.cells (x : Bx w b nr wh f g h l c iv cv) : w.cell? ⟨b, 0, none⟩ = some (.bool nr) ∧ w.cell? ⟨b, 1, none⟩ = some (.int .i64 wh) ∧ w.cell? ⟨b, 2, none⟩ = some (.int .i64 f) ∧ w.cell? ⟨b, 3, none⟩ = some (.int .i64 g) ∧ w.cell? ⟨b, 4, none⟩ = some (.int .i64 h) ∧ w.cell? ⟨b, 5, none⟩ = some (.int .i64 l) ∧ w.cell? ⟨b, 6, none⟩ = some (.int .i64 c) ∧ w.cell? ⟨b, 7, none⟩ = some iv ∧ w.cell? ⟨b, 8, none⟩ = some cv := by
  refine ⟨?_, ?_, ?_, ?_, ?_, ?_, ?_, ?_, ?_⟩ <;> (rw [cell_of_row w b _ _ _ _ x]; rfl)
theorem Bx.fro (x : Bx w b nr wh f g h l c iv cv) (k : Nat) : w.frozen? ⟨b, k, none⟩ = false := frozen_of_row w b k _ _ x
theorem Bx.below (x : Bx w b nr wh f g h l c iv cv) (y : Below w.heap.size w w') : Bx w' b nr wh f g h l c iv cv := (y.block b (lt_of_block x)).trans x
theorem Bx.kept {K : Nat → Prop} (x : Bx w b nr wh f g h l c iv cv) (y : Kept K w w') (hK : ¬ K b) : Bx w' b nr wh f g h l c iv cv := (y.block b (lt_of_block x) hK).trans x
theorem Bx.setF (x : Bx w b nr wh f g h l c iv cv) (v : Int) : Bx (w.setCell ⟨b, 2, none⟩ (.int .i64 v)) b nr wh v g h l c iv cv := by
  unfold Bx
  rw [block_setCell x 2]
  rfl
theorem Bx.setG (x : Bx w b nr wh f g h l c iv cv) (v : Int) : Bx (w.setCell ⟨b, 3, none⟩ (.int .i64 v)) b nr wh f v h l c iv cv := by
  unfold Bx
  rw [block_setCell x 3]
  rfl
theorem Bx.setH (x : Bx w b nr wh f g h l c iv cv) (v : Int) : Bx (w.setCell ⟨b, 4, none⟩ (.int .i64 v)) b nr wh f g v l c iv cv := by
  unfold Bx
  rw [block_setCell x 4]
  rfl
theorem Bx.setL (x : Bx w b nr wh f g h l c iv cv) (v : Int) : Bx (w.setCell ⟨b, 5, none⟩ (.int .i64 v)) b nr wh f g h v c iv cv := by
  unfold Bx
  rw [block_setCell x 5]
  rfl
theorem Bx.setC (x : Bx w b nr wh f g h l c iv cv) (v : Int) : Bx (w.setCell ⟨b, 6, none⟩ (.int .i64 v)) b nr wh f g h l v iv cv := by
  unfold Bx
  rw [block_setCell x 6]
  rfl
theorem Bx.setI (x : Bx w b nr wh f g h l c iv cv) (v : Value) : Bx (w.setCell ⟨b, 7, none⟩ v) b nr wh f g h l c v cv := by
  unfold Bx
  rw [block_setCell x 7]
  rfl
theorem Bx.setS (x : Bx w b nr wh f g h l c iv cv) (v : Value) : Bx (w.setCell ⟨b, 8, none⟩ v) b nr wh f g h l c iv v := by
  unfold Bx
  rw [block_setCell x 8]
  rfl
theorem two_blk (w : World) (c d : Array Value) (t : TypeId) : Below w.heap.size w ((w.alloc (.cells c t)).alloc (.cells d t)) ∧ ((w.alloc (.cells c t)).alloc (.cells d t)).heap[w.heap.size]? = some (.cells c t (0, 0)) ∧ ((w.alloc (.cells c t)).alloc (.cells d t)).heap[w.heap.size + 1]? = some (.cells d t (0, 0)) := by
  have y1 : Below w.heap.size w (w.alloc (.cells c t)) := al (Below.refl _ _) _
  have b1 : (w.alloc (.cells c t)).heap[w.heap.size]? = some (.cells c t (0, 0)) := heap_alloc_new w _
  have s1 : (w.alloc (.cells c t)).heap.size = w.heap.size + 1 := by simp
  generalize w.alloc (.cells c t) = w1 at *
  have y2 : Below w1.heap.size w1 (w1.alloc (.cells d t)) := al (Below.refl _ _) _
  have b2 : (w1.alloc (.cells d t)).heap[w1.heap.size]? = some (.cells d t (0, 0)) := heap_alloc_new w1 _
  rw [s1] at b2
  exact ⟨bt y1 y2 (Nat.le_refl _), (y2.block _ (by omega)).trans b1, b2⟩
end
/-- A step and what it brings. -/
structure OpIn (w : World) (z : OpZ) (IN : List Bool) (CS : List Int) : Prop where
  ff : Fit z.f
  fg : Fit z.g
  fh : Fit z.h
  fl : Fit z.l
  fc : Fit z.c
  il : z.il = IN.length
  ia : BAt w z.ia IN
  ile : IN.length ≤ 140737488351232
  cl : z.cl = CS.length
  ca : ZAt w z.ca CS
  cf : ∀ k ∈ CS, Fit k
  cle : CS.length ≤ 17592186043904
theorem OpIn.below {w w' : World} {z : OpZ} {IN : List Bool} {CS : List Int} (h : OpIn w z IN CS) (x : Below w.heap.size w w') : OpIn w' z IN CS := ⟨h.ff, h.fg, h.fh, h.fl, h.fc, h.il, h.ia.below x, h.ile, h.cl, h.ca.below x, h.cf, h.cle⟩
/-- A step whose numbers are of what is there. -/
structure OpNr (w : World) (S : List Int) (N : List Nd) (z z2 : OpZ) (IN : List Bool) (CS : List Int) (lN cN : Nat) : Prop where
  near : z2.near = z.near
  what : z2.what = z.what
  f : hasR N z2.f
  g : hasR N z2.g
  h : hasR N z2.h
  l : z2.l = (lN : Int)
  lt : lN < S.length
  c : z2.c = (cN : Int)
  clt : (cN : Int) < S.getD lN 0
  inl : (IN.length : Int) = S.getD lN 0
  il : z2.il = IN.length
  ia : BAt w z2.ia IN
  cl : z2.cl = CS.length
  ca : ZAt w z2.ca CS
  pt : PtL S CS
theorem own_bat {w : World} {base : Nat} {v : Value} {L : List Bool} (h : w.ownsRow base 4 1 v L.length (bC L)) : ∃ ao cap, v = .slice ao L.length cap ∧ BAt w ao L := by
  obtain ⟨ao, cap, hv, _⟩ := own_shape h
  by_cases h0 : 0 < L.length
  · obtain ⟨g, cap2, hv2, _, hb⟩ := own_bbk h h0
    exact ⟨_, _, hv2, hb.at⟩
  · exact ⟨ao, cap, hv, .inl (List.eq_nil_of_length_eq_zero (by omega))⟩
theorem own_zat {w : World} {base : Nat} {v : Value} {L : List Int} (h : w.ownsRow base 3 1 v L.length (zC L)) : ∃ ao cap, v = .slice ao L.length cap ∧ ZAt w ao L := by
  obtain ⟨ao, cap, hv, _⟩ := own_shape h
  by_cases h0 : 0 < L.length
  · obtain ⟨g, cap2, hv2, _, hb⟩ := own_blk h h0
    exact ⟨_, _, hv2, hb.at⟩
  · exact ⟨ao, cap, hv, .inl (List.eq_nil_of_length_eq_zero (by omega))⟩
end Go.Proofs.Ytaafeflbanoncaa
