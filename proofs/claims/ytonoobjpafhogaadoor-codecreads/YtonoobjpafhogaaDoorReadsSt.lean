/-
  What CodecReads holds in the middle of its calls, and its callees over that. Conditions: as those of the Readers.
-/
import Derived.Test.YtonoobjpafhogaaDoorRPair
import Derived.Test.YtonoobjpafhogaaDoorSize2
namespace Go.Proofs.YtonoobjpafhogaaDoor
open Go.RowKit

structure RSt (N Bw Bx b0 b1 c0 c1 : Nat) (w wr : World) (E0 : Int) (R0 R0' : List UInt8) (E1 : Int) (R1 R1' : List UInt8) : Prop where
  p0 : RP wr b0 c0 E0 R0 R0'
  p1 : RP wr b1 c1 E1 R1 R1'
  lo : N ≤ b0 ∧ N ≤ c0 ∧ N ≤ b1 ∧ N ≤ c1
  far : b0 ≠ b1 ∧ b0 ≠ c1 ∧ c0 ≠ b1 ∧ c0 ≠ c1
  fw : Bw ≠ b0 ∧ Bw ≠ c0 ∧ Bw ≠ b1 ∧ Bw ≠ c1
  fx : Bx ≠ b0 ∧ Bx ≠ c0 ∧ Bx ≠ b1 ∧ Bx ≠ c1
  wc : wr.heap[Bw]? = some (.cells #[.pointer (some ⟨b0, 0, none⟩), .pointer (some ⟨b1, 0, none⟩)] 40 (0, 0))
  xc : wr.heap[Bx]? = some (.cells #[.pointer (some ⟨c0, 0, none⟩), .pointer (some ⟨c1, 0, none⟩)] 43 (0, 0))
  hg : HG wr
  npos : 0 < N
  ns : N ≤ wr.heap.size
  below : Below N w wr

section
variable {N Bw Bx b0 b1 c0 c1 : Nat} {w wr wl : World} {E0 : Int} {R0 R0' : List UInt8} {E1 : Int} {R1 R1' : List UInt8}

theorem RSt.quiet (h : RSt N Bw Bx b0 b1 c0 c1 w wr E0 R0 R0' E1 R1 R1') (hb : Below wr.heap.size wr wl) : RSt N Bw Bx b0 b1 c0 c1 w wl E0 R0 R0' E1 R1 R1' := by
  have hb' : Below N wr wl := hb.mono h.ns
  exact ⟨h.p0.below hb, h.p1.below hb, h.lo, h.far, h.fw, h.fx, by rw [hb.block Bw (lt_of_block h.wc)]; exact h.wc, by rw [hb.block Bx (lt_of_block h.xc)]; exact h.xc,
    h.hg.below hb' h.npos, h.npos, Nat.le_trans h.ns hb.size, h.below.trans hb'⟩
theorem RSt.ptrs (h : RSt N Bw Bx b0 b1 c0 c1 w wr E0 R0 R0' E1 R1 R1') :
    (wr.cell? ⟨Bw, 0, none⟩ = some (.pointer (some ⟨b0, 0, none⟩)) ∧ wr.cell? ⟨Bx, 0, none⟩ = some (.pointer (some ⟨c0, 0, none⟩))) ∧
    (wr.cell? ⟨Bw, 1, none⟩ = some (.pointer (some ⟨b1, 0, none⟩)) ∧ wr.cell? ⟨Bx, 1, none⟩ = some (.pointer (some ⟨c1, 0, none⟩))) := by
  have qw0 := cell_of_row _ Bw 0 _ _ _ h.wc
  have qw1 := cell_of_row _ Bw 1 _ _ _ h.wc
  have qx0 := cell_of_row _ Bx 0 _ _ _ h.xc
  have qx1 := cell_of_row _ Bx 1 _ _ _ h.xc
  simp only [List.getElem?_toArray, List.getElem?_cons_zero, List.getElem?_cons_succ] at qw0 qw1 qx0 qx1
  exact ⟨⟨qw0, qx0⟩, ⟨qw1, qx1⟩⟩
theorem RSt.cells {sb so k : Nat} {o : OpD} (h : RSt N Bw Bx b0 b1 c0 c1 w wr E0 R0 R0' E1 R1 R1') (hat : OpAt w sb so k o) (hsb : sb < N) :
    (wr.cell? ⟨Bw, 0, none⟩ = some (.pointer (some ⟨b0, 0, none⟩)) ∧ wr.cell? ⟨Bx, 0, none⟩ = some (.pointer (some ⟨c0, 0, none⟩)) ∧ wr.cell? ⟨sb, so + k * 5, none⟩ = some (.int .i64 o.kind) ∧ wr.cell? ⟨sb, so + k * 5 + 1, none⟩ = some (.int .i64 o.on) ∧ wr.cell? ⟨sb, so + k * 5 + 2, none⟩ = some (.int .i64 o.size) ∧ wr.cell? ⟨sb, so + k * 5 + 3, none⟩ = some (.int .i64 o.n) ∧ wr.cell? ⟨sb, so + k * 5 + 4, none⟩ = some (.string o.s)) ∧
    (wr.cell? ⟨Bw, 1, none⟩ = some (.pointer (some ⟨b1, 0, none⟩)) ∧ wr.cell? ⟨Bx, 1, none⟩ = some (.pointer (some ⟨c1, 0, none⟩)) ∧ wr.cell? ⟨sb, so + k * 5, none⟩ = some (.int .i64 o.kind) ∧ wr.cell? ⟨sb, so + k * 5 + 1, none⟩ = some (.int .i64 o.on) ∧ wr.cell? ⟨sb, so + k * 5 + 2, none⟩ = some (.int .i64 o.size) ∧ wr.cell? ⟨sb, so + k * 5 + 3, none⟩ = some (.int .i64 o.n) ∧ wr.cell? ⟨sb, so + k * 5 + 4, none⟩ = some (.string o.s)) := by
  obtain ⟨a1, a2, a3, a4, a5⟩ := hat.below h.below hsb
  obtain ⟨⟨qw0, qx0⟩, ⟨qw1, qx1⟩⟩ := h.ptrs
  exact ⟨⟨qw0, qx0, a1, a2, a3, a4, a5⟩, ⟨qw1, qx1, a1, a2, a3, a4, a5⟩⟩
theorem reads0 (h : RSt N Bw Bx b0 b1 c0 c1 w wr E0 R0 R0' E1 R1 R1') (o : OpD) (ho : OpOk o) :
    Calls Tryd.prog 21 #[.pointer (some ⟨b0, 0, none⟩), .pointer (some ⟨c0, 0, none⟩), .agg #[.int .i64 o.kind, .int .i64 o.on, .int .i64 o.size, .int .i64 o.n, .string o.s]] wr fun e w' => e = .returned (.bool true) ∧ ∃ E R R', RSt N Bw Bx b0 b1 c0 c1 w w' E R R' E1 R1 R1' := by
  refine (reads_any wr b0 c0 E0 R0 R0' o ho h.p0).mono ?_
  rintro e w' ⟨rfl, ⟨E, R, R', hp⟩, hk⟩
  obtain ⟨l1, l2, l3, l4⟩ := h.lo
  obtain ⟨f1, f2, f3, f4⟩ := h.far
  have hb : Below N wr w' := hk.below h.ns (fun i hi => by omega)
  exact ⟨rfl, E, R, R', hp, h.p1.kept hk (by omega) (by omega), h.lo, h.far, h.fw, h.fx, by rw [hk.block Bw (lt_of_block h.wc) (by have := h.fw; omega)]; exact h.wc,
    by rw [hk.block Bx (lt_of_block h.xc) (by have := h.fx; omega)]; exact h.xc, h.hg.below hb h.npos, h.npos, Nat.le_trans h.ns hk.size, h.below.trans hb⟩
theorem reads1 (h : RSt N Bw Bx b0 b1 c0 c1 w wr E0 R0 R0' E1 R1 R1') (o : OpD) (ho : OpOk o) :
    Calls Tryd.prog 21 #[.pointer (some ⟨b1, 0, none⟩), .pointer (some ⟨c1, 0, none⟩), .agg #[.int .i64 o.kind, .int .i64 o.on, .int .i64 o.size, .int .i64 o.n, .string o.s]] wr fun e w' => e = .returned (.bool true) ∧ ∃ E R R', RSt N Bw Bx b0 b1 c0 c1 w w' E0 R0 R0' E R R' := by
  refine (reads_any wr b1 c1 E1 R1 R1' o ho h.p1).mono ?_
  rintro e w' ⟨rfl, ⟨E, R, R', hp⟩, hk⟩
  obtain ⟨l1, l2, l3, l4⟩ := h.lo
  obtain ⟨f1, f2, f3, f4⟩ := h.far
  have hb : Below N wr w' := hk.below h.ns (fun i hi => by omega)
  exact ⟨rfl, E, R, R', h.p0.kept hk (by omega) (by omega), hp, h.lo, h.far, h.fw, h.fx, by rw [hk.block Bw (lt_of_block h.wc) (by have := h.fw; omega)]; exact h.wc,
    by rw [hk.block Bx (lt_of_block h.xc) (by have := h.fx; omega)]; exact h.xc, h.hg.below hb h.npos, h.npos, Nat.le_trans h.ns hk.size, h.below.trans hb⟩
theorem left0 (h : RSt N Bw Bx b0 b1 c0 c1 w wr E0 R0 R0' E1 R1 R1') :
    Calls Tryd.prog 22 #[.pointer (some ⟨b0, 0, none⟩)] wr fun e w' => e = .returned (.int .i64 R0.length) ∧ w' = wr := rLeft_any wr b0 _ R0 h.p0.one
theorem left1 (h : RSt N Bw Bx b0 b1 c0 c1 w wr E0 R0 R0' E1 R1 R1') :
    Calls Tryd.prog 22 #[.pointer (some ⟨b1, 0, none⟩)] wr fun e w' => e = .returned (.int .i64 R1.length) ∧ w' = wr := rLeft_any wr b1 _ R1 h.p1.one
theorem rleft0 (h : RSt N Bw Bx b0 b1 c0 c1 w wr E0 R0 R0' E1 R1 R1') :
    Calls Tryd.prog 23 #[.pointer (some ⟨c0, 0, none⟩)] wr fun e w' => e = .returned (.int .i64 R0.length) ∧ w' = wr := by rw [← h.p0.left]; exact refLeft_any wr c0 E0 R0' h.p0.two
theorem rleft1 (h : RSt N Bw Bx b0 b1 c0 c1 w wr E0 R0 R0' E1 R1 R1') :
    Calls Tryd.prog 23 #[.pointer (some ⟨c1, 0, none⟩)] wr fun e w' => e = .returned (.int .i64 R1.length) ∧ w' = wr := by rw [← h.p1.left]; exact refLeft_any wr c1 E1 R1' h.p1.two
theorem done0 (h : RSt N Bw Bx b0 b1 c0 c1 w wr E0 R0 R0' E1 R1 R1') :
    Calls Tryd.prog 24 #[.pointer (some ⟨b0, 0, none⟩)] wr fun e w' => e = .returned (.int .i64 (rDone E0 R0)) ∧ RSt N Bw Bx b0 b1 c0 c1 w w' E0 R0 R0' E1 R1 R1' := by
  refine (rDone_any wr b0 E0 R0 h.hg h.p0.one).mono ?_
  rintro e w' ⟨rfl, hb⟩
  exact ⟨rfl, h.quiet hb⟩
theorem done1 (h : RSt N Bw Bx b0 b1 c0 c1 w wr E0 R0 R0' E1 R1 R1') :
    Calls Tryd.prog 24 #[.pointer (some ⟨b1, 0, none⟩)] wr fun e w' => e = .returned (.int .i64 (rDone E1 R1)) ∧ RSt N Bw Bx b0 b1 c0 c1 w w' E0 R0 R0' E1 R1 R1' := by
  refine (rDone_any wr b1 E1 R1 h.hg h.p1.one).mono ?_
  rintro e w' ⟨rfl, hb⟩
  exact ⟨rfl, h.quiet hb⟩
theorem rdone0 (h : RSt N Bw Bx b0 b1 c0 c1 w wr E0 R0 R0' E1 R1 R1') :
    Calls Tryd.prog 25 #[.pointer (some ⟨c0, 0, none⟩)] wr fun e w' => e = .returned (.int .i64 (rDone E0 R0)) ∧ w' = wr := by rw [← h.p0.done]; exact refRDone_any wr c0 E0 R0' h.p0.two
theorem rdone1 (h : RSt N Bw Bx b0 b1 c0 c1 w wr E0 R0 R0' E1 R1 R1') :
    Calls Tryd.prog 25 #[.pointer (some ⟨c1, 0, none⟩)] wr fun e w' => e = .returned (.int .i64 (rDone E1 R1)) ∧ w' = wr := by rw [← h.p1.done]; exact refRDone_any wr c1 E1 R1' h.p1.two
end

theorem rst_start {w w2 w3 w4 w5 w6 : World} {s t : ByteArray} {b0 b1 Bw c1 : Nat} (hs : s.size ≤ 140737488355328) (ht : t.size ≤ 140737488355328) (hg : HG w)
    (HB2 : Below w.heap.size w w2)
    (X3 : RAt 77 w3 b0 s.data.toList (errOf 0)) (Y3 : Below b0 w2 w3) (Z3 : w3.heap.size = b0 + 1) (E3 : w2.heap.size = b0)
    (X4 : RAt 77 w4 b1 t.data.toList (errOf 0)) (Y4 : Below b1 w3 w4) (Z4 : w4.heap.size = b1 + 1) (E4 : w3.heap.size = b1)
    (X5 : RAt 79 w5 (Bw + 1) s.data.toList (.int .i64 0)) (Y5 : Below (Bw + 1) (w4.alloc (.cells #[.pointer (some ⟨b0, 0, none⟩), .pointer (some ⟨b1, 0, none⟩)] 40)) w5) (Z5 : w5.heap.size = Bw + 1 + 1) (E5 : w4.heap.size = Bw)
    (X6 : RAt 79 w6 c1 t.data.toList (.int .i64 0)) (Y6 : Below c1 w5 w6) (Z6 : w6.heap.size = c1 + 1) (E6 : w5.heap.size = c1) :
    RSt w.heap.size Bw w6.heap.size b0 b1 (Bw + 1) c1 w (w6.alloc (.cells #[.pointer (some ⟨Bw + 1, 0, none⟩), .pointer (some ⟨c1, 0, none⟩)] 43)) 0 s.data.toList s.data.toList 0 t.data.toList t.data.toList := by
  have n0 := hg.pos
  have n2 := HB2.size
  have s7 : (w6.alloc (.cells #[.pointer (some ⟨Bw + 1, 0, none⟩), .pointer (some ⟨c1, 0, none⟩)] 43)).heap.size = w6.heap.size + 1 := by simp
  have a7 : Below w6.heap.size w6 (w6.alloc (.cells #[.pointer (some ⟨Bw + 1, 0, none⟩), .pointer (some ⟨c1, 0, none⟩)] 43)) := (Below.refl _ _).alloc (Nat.le_refl _) _
  have a4 : Below w4.heap.size w4 (w4.alloc (.cells #[.pointer (some ⟨b0, 0, none⟩), .pointer (some ⟨b1, 0, none⟩)] 40)) := (Below.refl _ _).alloc (Nat.le_refl _) _
  have y3 : Below w2.heap.size w2 w3 := by rw [E3]; exact Y3
  have y4 : Below w3.heap.size w3 w4 := by rw [E4]; exact Y4
  have y45 : Below w4.heap.size w4 w5 := a4.trans (Y5.mono (by omega))
  have y6 : Below w5.heap.size w5 w6 := by rw [E6]; exact Y6
  have b47 : Below w4.heap.size w4 (w6.alloc (.cells #[.pointer (some ⟨Bw + 1, 0, none⟩), .pointer (some ⟨c1, 0, none⟩)] 43)) := y45.trans ((y6.mono (by omega)).trans (a7.mono (by omega)))
  have b57 : Below w5.heap.size w5 (w6.alloc (.cells #[.pointer (some ⟨Bw + 1, 0, none⟩), .pointer (some ⟨c1, 0, none⟩)] 43)) := y6.trans (a7.mono (by omega))
  have ball : Below w.heap.size w (w6.alloc (.cells #[.pointer (some ⟨Bw + 1, 0, none⟩), .pointer (some ⟨c1, 0, none⟩)] 43)) := HB2.trans ((y3.mono (by omega)).trans ((y4.mono (by omega)).trans (b47.mono (by omega))))
  have hwc : w5.heap[Bw]? = some (.cells #[.pointer (some ⟨b0, 0, none⟩), .pointer (some ⟨b1, 0, none⟩)] 40 (0, 0)) := by
    rw [Y5.block Bw (by omega), ← E5]; exact heap_alloc_new w4 _
  refine ⟨⟨(X3.below y4).below b47, X5.below b57, by omega, fun _ => rfl, fun h => absurd rfl h, by simp; omega⟩, ⟨X4.below b47, X6.below a7, by omega, fun _ => rfl, fun h => absurd rfl h, by simp; omega⟩,
    ⟨by omega, by omega, by omega, by omega⟩, ⟨by omega, by omega, by omega, by omega⟩, ⟨by omega, by omega, by omega, by omega⟩, ⟨by omega, by omega, by omega, by omega⟩, ?_, ?_, hg.below ball n0, n0, by omega, ball⟩
  · rw [b57.block Bw (by omega)]; exact hwc
  · exact heap_alloc_new w6 _
end Go.Proofs.YtonoobjpafhogaaDoor
