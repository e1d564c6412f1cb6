/-
  CodecWrites, walked: of any rooms and any script it answers true; nothing that was there has turned. Conditions: the numbers are ints, each text and the script are no longer than a process can hold; the cell of errors.errorType holds the handle of 'error'.
-/
import Derived.Test.YtonoobjpafhogaaDoorPair
namespace Go.Proofs.YtonoobjpafhogaaDoor
open Go.RowKit

/-- What CodecWrites holds in the middle of its calls: two pairs, and the two slices that lead to them. -/
structure St (N Bw Bx b0 b1 c0 c1 m0 m1 L : Nat) (w wr : World) : Prop where
  ex : ∃ H0 H1 : Nat → Prop, Pair H0 wr b0 c0 m0 L ∧ Pair H1 wr b1 c1 m1 L ∧ (∀ k, H0 k → ¬ H1 k) ∧ (∀ k, H0 k ∨ H1 k → N ≤ k ∧ k ≠ Bw ∧ k ≠ Bx ∧ k < wr.heap.size)
  wc : wr.heap[Bw]? = some (.cells #[.pointer (some ⟨b0, 0, none⟩), .pointer (some ⟨b1, 0, none⟩)] 28 (0, 0))
  xc : wr.heap[Bx]? = some (.cells #[.pointer (some ⟨c0, 0, none⟩), .pointer (some ⟨c1, 0, none⟩)] 31 (0, 0))
  hg : HG wr
  npos : 0 < N
  ns : N ≤ wr.heap.size
  below : Below N w wr

theorem St.quiet {N Bw Bx b0 b1 c0 c1 m0 m1 L : Nat} {w wr wl : World} (h : St N Bw Bx b0 b1 c0 c1 m0 m1 L w wr) (hb : Below wr.heap.size wr wl) : St N Bw Bx b0 b1 c0 c1 m0 m1 L w wl := by
  obtain ⟨⟨H0, H1, p0, p1, hd, hl⟩, hw, hx, hg, np, ns, bl⟩ := h
  have hb' : Below N wr wl := hb.mono ns
  exact ⟨⟨H0, H1, p0.below hb, p1.below hb, hd, fun k hk => ⟨(hl k hk).1, (hl k hk).2.1, (hl k hk).2.2.1, Nat.lt_of_lt_of_le (hl k hk).2.2.2 hb.size⟩⟩,
    by rw [hb.block Bw (lt_of_block hw)]; exact hw, by rw [hb.block Bx (lt_of_block hx)]; exact hx, hg.below hb' np, np, Nat.le_trans ns hb.size, bl.trans hb'⟩
/-- A call on one pair: all else is as it was. -/
theorem st_frame {N Bw Bx b0 b1 c0 c1 : Nat} {w wr wl : World} {H : Nat → Prop} (hk : Kept H wr wl) (hl : ∀ k, H k → N ≤ k ∧ k ≠ Bw ∧ k ≠ Bx ∧ k < wr.heap.size)
    (hw : wr.heap[Bw]? = some (.cells #[.pointer (some ⟨b0, 0, none⟩), .pointer (some ⟨b1, 0, none⟩)] 28 (0, 0)))
    (hx : wr.heap[Bx]? = some (.cells #[.pointer (some ⟨c0, 0, none⟩), .pointer (some ⟨c1, 0, none⟩)] 31 (0, 0)))
    (hg : HG wr) (np : 0 < N) (ns : N ≤ wr.heap.size) (bl : Below N w wr) :
    wl.heap[Bw]? = some (.cells #[.pointer (some ⟨b0, 0, none⟩), .pointer (some ⟨b1, 0, none⟩)] 28 (0, 0)) ∧
    wl.heap[Bx]? = some (.cells #[.pointer (some ⟨c0, 0, none⟩), .pointer (some ⟨c1, 0, none⟩)] 31 (0, 0)) ∧ HG wl ∧ N ≤ wl.heap.size ∧ Below N w wl := by
  have hb : Below N wr wl := hk.below ns (fun i hi => (hl i hi).1)
  exact ⟨by rw [hk.block Bw (lt_of_block hw) (fun h => (hl _ h).2.1 rfl)]; exact hw, by rw [hk.block Bx (lt_of_block hx) (fun h => (hl _ h).2.2.1 rfl)]; exact hx,
    hg.below hb np, Nat.le_trans ns hk.size, bl.trans hb⟩
theorem St.step0 {N Bw Bx b0 b1 c0 c1 m0 m1 L L' : Nat} {w wr wl : World} {H0 H1 : Nat → Prop} (hw : wr.heap[Bw]? = some (.cells #[.pointer (some ⟨b0, 0, none⟩), .pointer (some ⟨b1, 0, none⟩)] 28 (0, 0)))
    (hx : wr.heap[Bx]? = some (.cells #[.pointer (some ⟨c0, 0, none⟩), .pointer (some ⟨c1, 0, none⟩)] 31 (0, 0)))
    (hg : HG wr) (np : 0 < N) (ns : N ≤ wr.heap.size) (bl : Below N w wr) (p1 : Pair H1 wr b1 c1 m1 L) (hd : ∀ k, H0 k → ¬ H1 k) (hl : ∀ k, H0 k ∨ H1 k → N ≤ k ∧ k ≠ Bw ∧ k ≠ Bx ∧ k < wr.heap.size)
    (hp : Pair (fun k => H0 k ∨ wr.heap.size ≤ k) wl b0 c0 m0 L') (hk : Kept H0 wr wl) (hL : L ≤ L') : St N Bw Bx b0 b1 c0 c1 m0 m1 L' w wl := by
  obtain ⟨a1, a2, a3, a4, a5⟩ := st_frame hk (fun k h => hl k (.inl h)) hw hx hg np ns bl
  have lw := lt_of_block hw
  have lx := lt_of_block hx
  refine ⟨⟨fun k => (H0 k ∨ wr.heap.size ≤ k) ∧ k < wl.heap.size, H1, hp.mono (fun k a b => ⟨a, b⟩) (Nat.le_refl _), (p1.kept hk (fun k h1 h0 => hd k h0 h1)).mono (fun k h _ => h) hL, ?_, ?_⟩, a1, a2, a3, np, a4, a5⟩
  · rintro k ⟨h, _⟩ h1
    rcases h with h | h
    · exact hd k h h1
    · have := (hl k (.inr h1)).2.2.2; omega
  · rintro k (⟨h, hlt⟩ | h)
    · rcases h with h | h
      · exact ⟨(hl k (.inl h)).1, (hl k (.inl h)).2.1, (hl k (.inl h)).2.2.1, hlt⟩
      · exact ⟨by omega, by omega, by omega, hlt⟩
    · exact ⟨(hl k (.inr h)).1, (hl k (.inr h)).2.1, (hl k (.inr h)).2.2.1, Nat.lt_of_lt_of_le (hl k (.inr h)).2.2.2 hk.size⟩
theorem St.step1 {N Bw Bx b0 b1 c0 c1 m0 m1 L L' : Nat} {w wr wl : World} {H0 H1 : Nat → Prop} (hw : wr.heap[Bw]? = some (.cells #[.pointer (some ⟨b0, 0, none⟩), .pointer (some ⟨b1, 0, none⟩)] 28 (0, 0)))
    (hx : wr.heap[Bx]? = some (.cells #[.pointer (some ⟨c0, 0, none⟩), .pointer (some ⟨c1, 0, none⟩)] 31 (0, 0)))
    (hg : HG wr) (np : 0 < N) (ns : N ≤ wr.heap.size) (bl : Below N w wr) (p0 : Pair H0 wr b0 c0 m0 L) (hd : ∀ k, H0 k → ¬ H1 k) (hl : ∀ k, H0 k ∨ H1 k → N ≤ k ∧ k ≠ Bw ∧ k ≠ Bx ∧ k < wr.heap.size)
    (hp : Pair (fun k => H1 k ∨ wr.heap.size ≤ k) wl b1 c1 m1 L') (hk : Kept H1 wr wl) (hL : L ≤ L') : St N Bw Bx b0 b1 c0 c1 m0 m1 L' w wl := by
  obtain ⟨a1, a2, a3, a4, a5⟩ := st_frame hk (fun k h => hl k (.inr h)) hw hx hg np ns bl
  have lw := lt_of_block hw
  have lx := lt_of_block hx
  refine ⟨⟨H0, fun k => (H1 k ∨ wr.heap.size ≤ k) ∧ k < wl.heap.size, (p0.kept hk (fun k h0 h1 => hd k h0 h1)).mono (fun k h _ => h) hL, hp.mono (fun k a b => ⟨a, b⟩) (Nat.le_refl _), ?_, ?_⟩, a1, a2, a3, np, a4, a5⟩
  · rintro k h0 ⟨h, _⟩
    rcases h with h | h
    · exact hd k h0 h
    · have := (hl k (.inl h0)).2.2.2; omega
  · rintro k (h | ⟨h, hlt⟩)
    · exact ⟨(hl k (.inl h)).1, (hl k (.inl h)).2.1, (hl k (.inl h)).2.2.1, Nat.lt_of_lt_of_le (hl k (.inl h)).2.2.2 hk.size⟩
    · rcases h with h | h
      · exact ⟨(hl k (.inr h)).1, (hl k (.inr h)).2.1, (hl k (.inr h)).2.2.1, hlt⟩
      · exact ⟨by omega, by omega, by omega, hlt⟩

theorem pair_start {w : World} {F G : Nat → Prop} {b c most : Nat} (hr : most ≤ 9223372036854775807) (h1 : WAt 73 F w b most (errOf 0) []) (h2 : WAt 75 G w c most (.int .i64 0) []) (hd : ∀ k, F k → ¬ G k) (hF : ∀ k, F k → k < w.heap.size) (hG : ∀ k, G k → k < w.heap.size) : Pair (fun k => F k ∨ G k) w b c most 0 :=
  ⟨hr, 0, [], [], F, G, h1, h2, fun _ => rfl, Nat.le_refl _, Nat.le_refl _, hd, fun k h => ⟨.inl h, hF k h⟩, fun k h => ⟨.inr h, hG k h⟩⟩
theorem roomOf_le (n : Int) (h : n ≤ 9223372036854775807) : roomOf n ≤ 9223372036854775807 := by unfold roomOf; omega

theorem st_start {w w2 w3 w4 w5 w6 : World} {one two : Int} {b0 b1 Bw c1 Bx : Nat} (h1 : one ≤ 9223372036854775807) (h2 : two ≤ 9223372036854775807) (hg : HG w)
    (HB2 : Below w.heap.size w w2)
    (X3 : WAt 73 (fun k => k = b0) w3 b0 (roomOf one) (errOf 0) []) (Y3 : Below b0 w2 w3) (Z3 : w3.heap.size = b0 + 1) (E3 : w2.heap.size = b0)
    (X4 : WAt 73 (fun k => k = b1) w4 b1 (roomOf two) (errOf 0) []) (Y4 : Below b1 w3 w4) (Z4 : w4.heap.size = b1 + 1) (E4 : w3.heap.size = b1)
    (X5 : WAt 75 (fun k => k = Bw + 1) w5 (Bw + 1) (roomOf one) (.int .i64 0) []) (Y5 : Below (Bw + 1) (w4.alloc (.cells #[.pointer (some ⟨b0, 0, none⟩), .pointer (some ⟨b1, 0, none⟩)] 28)) w5) (Z5 : w5.heap.size = Bw + 1 + 1) (E5 : w4.heap.size = Bw)
    (X6 : WAt 75 (fun k => k = c1) w6 c1 (roomOf two) (.int .i64 0) []) (Y6 : Below c1 w5 w6) (Z6 : w6.heap.size = c1 + 1) (E6 : w5.heap.size = c1) (E7 : w6.heap.size = Bx) :
    St w.heap.size Bw Bx b0 b1 (Bw + 1) c1 (roomOf one) (roomOf two) 0 w (w6.alloc (.cells #[.pointer (some ⟨Bw + 1, 0, none⟩), .pointer (some ⟨c1, 0, none⟩)] 31)) := by
  have n0 := hg.pos
  have n2 := HB2.size
  subst E7
  have s7 : (w6.alloc (.cells #[.pointer (some ⟨Bw + 1, 0, none⟩), .pointer (some ⟨c1, 0, none⟩)] 31)).heap.size = w6.heap.size + 1 := by simp
  have a7 : Below w6.heap.size w6 (w6.alloc (.cells #[.pointer (some ⟨Bw + 1, 0, none⟩), .pointer (some ⟨c1, 0, none⟩)] 31)) := (Below.refl _ _).alloc (Nat.le_refl _) _
  have a4 : Below w4.heap.size w4 (w4.alloc (.cells #[.pointer (some ⟨b0, 0, none⟩), .pointer (some ⟨b1, 0, none⟩)] 28)) := (Below.refl _ _).alloc (Nat.le_refl _) _
  have y3 : Below w2.heap.size w2 w3 := by rw [E3]; exact Y3
  have y4 : Below w3.heap.size w3 w4 := by rw [E4]; exact Y4
  have y45 : Below w4.heap.size w4 w5 := a4.trans (Y5.mono (by omega))
  have y6 : Below w5.heap.size w5 w6 := by rw [E6]; exact Y6
  have b47 : Below w4.heap.size w4 (w6.alloc (.cells #[.pointer (some ⟨Bw + 1, 0, none⟩), .pointer (some ⟨c1, 0, none⟩)] 31)) := y45.trans ((y6.mono (by omega)).trans (a7.mono (by omega)))
  have b57 : Below w5.heap.size w5 (w6.alloc (.cells #[.pointer (some ⟨Bw + 1, 0, none⟩), .pointer (some ⟨c1, 0, none⟩)] 31)) := y6.trans (a7.mono (by omega))
  have ball : Below w.heap.size w (w6.alloc (.cells #[.pointer (some ⟨Bw + 1, 0, none⟩), .pointer (some ⟨c1, 0, none⟩)] 31)) := HB2.trans ((y3.mono (by omega)).trans ((y4.mono (by omega)).trans (b47.mono (by omega))))
  have hwc : w5.heap[Bw]? = some (.cells #[.pointer (some ⟨b0, 0, none⟩), .pointer (some ⟨b1, 0, none⟩)] 28 (0, 0)) := by
    rw [Y5.block Bw (by omega), ← E5]; exact heap_alloc_new w4 _
  refine ⟨⟨_, _, pair_start (roomOf_le one h1) ((X3.below y4).below b47) (X5.below b57) (fun k a b => by omega) (fun k a => by omega) (fun k a => by omega),
    pair_start (roomOf_le two h2) (X4.below b47) (X6.below a7) (fun k a b => by omega) (fun k a => by omega) (fun k a => by omega), fun k a b => by omega, fun k a => ⟨by omega, by omega, by omega, by omega⟩⟩, ?_, ?_, hg.below ball n0, n0, by omega, ball⟩
  · rw [b57.block Bw (by omega)]; exact hwc
  · exact heap_alloc_new w6 _

/-- The cells that a round reads. -/
theorem St.cells {N Bw Bx b0 b1 c0 c1 m0 m1 L sb so k : Nat} {o : OpD} {w wr : World} (h : St N Bw Bx b0 b1 c0 c1 m0 m1 L w wr) (hat : OpAt w sb so k o) (hsb : sb < N) :
    (wr.cell? ⟨Bw, 0, none⟩ = some (.pointer (some ⟨b0, 0, none⟩)) ∧ wr.cell? ⟨Bx, 0, none⟩ = some (.pointer (some ⟨c0, 0, none⟩)) ∧ wr.cell? ⟨sb, so + k * 5, none⟩ = some (.int .i64 o.kind) ∧ wr.cell? ⟨sb, so + k * 5 + 1, none⟩ = some (.int .i64 o.on) ∧ wr.cell? ⟨sb, so + k * 5 + 2, none⟩ = some (.int .i64 o.size) ∧ wr.cell? ⟨sb, so + k * 5 + 3, none⟩ = some (.int .i64 o.n) ∧ wr.cell? ⟨sb, so + k * 5 + 4, none⟩ = some (.string o.s)) ∧
    (wr.cell? ⟨Bw, 1, none⟩ = some (.pointer (some ⟨b1, 0, none⟩)) ∧ wr.cell? ⟨Bx, 1, none⟩ = some (.pointer (some ⟨c1, 0, none⟩)) ∧ wr.cell? ⟨sb, so + k * 5, none⟩ = some (.int .i64 o.kind) ∧ wr.cell? ⟨sb, so + k * 5 + 1, none⟩ = some (.int .i64 o.on) ∧ wr.cell? ⟨sb, so + k * 5 + 2, none⟩ = some (.int .i64 o.size) ∧ wr.cell? ⟨sb, so + k * 5 + 3, none⟩ = some (.int .i64 o.n) ∧ wr.cell? ⟨sb, so + k * 5 + 4, none⟩ = some (.string o.s)) := by
  obtain ⟨a1, a2, a3, a4, a5⟩ := hat.below h.below hsb
  have qw0 := cell_of_row _ Bw 0 _ _ _ h.wc
  have qw1 := cell_of_row _ Bw 1 _ _ _ h.wc
  have qx0 := cell_of_row _ Bx 0 _ _ _ h.xc
  have qx1 := cell_of_row _ Bx 1 _ _ _ h.xc
  simp only [List.getElem?_toArray, List.getElem?_cons_zero, List.getElem?_cons_succ] at qw0 qw1 qx0 qx1
  exact ⟨⟨qw0, qx0, a1, a2, a3, a4, a5⟩, ⟨qw1, qx1, a1, a2, a3, a4, a5⟩⟩
theorem St.ptrs {N Bw Bx b0 b1 c0 c1 m0 m1 L : Nat} {w wr : World} (h : St N Bw Bx b0 b1 c0 c1 m0 m1 L w wr) :
    (wr.cell? ⟨Bw, 0, none⟩ = some (.pointer (some ⟨b0, 0, none⟩)) ∧ wr.cell? ⟨Bx, 0, none⟩ = some (.pointer (some ⟨c0, 0, none⟩))) ∧
    (wr.cell? ⟨Bw, 1, none⟩ = some (.pointer (some ⟨b1, 0, none⟩)) ∧ wr.cell? ⟨Bx, 1, none⟩ = some (.pointer (some ⟨c1, 0, none⟩))) := by
  have qw0 := cell_of_row _ Bw 0 _ _ _ h.wc
  have qw1 := cell_of_row _ Bw 1 _ _ _ h.wc
  have qx0 := cell_of_row _ Bx 0 _ _ _ h.xc
  have qx1 := cell_of_row _ Bx 1 _ _ _ h.xc
  simp only [List.getElem?_toArray, List.getElem?_cons_zero, List.getElem?_cons_succ] at qw0 qw1 qx0 qx1
  exact ⟨⟨qw0, qx0⟩, ⟨qw1, qx1⟩⟩
theorem written0 {N Bw Bx b0 b1 c0 c1 m0 m1 L : Nat} {w wr : World} (h : St N Bw Bx b0 b1 c0 c1 m0 m1 L w wr) :
    Calls Tryd.prog 17 #[.pointer (some ⟨b0, 0, none⟩), .pointer (some ⟨c0, 0, none⟩)] wr fun e w' => e = .returned (.bool true) ∧ St N Bw Bx b0 b1 c0 c1 m0 m1 L w w' := by
  obtain ⟨H0, H1, p0, p1, _⟩ := h.ex
  refine (written_any H0 wr b0 c0 m0 L h.hg p0).mono ?_
  rintro e w' ⟨rfl, hb⟩
  exact ⟨rfl, h.quiet hb⟩
theorem written1 {N Bw Bx b0 b1 c0 c1 m0 m1 L : Nat} {w wr : World} (h : St N Bw Bx b0 b1 c0 c1 m0 m1 L w wr) :
    Calls Tryd.prog 17 #[.pointer (some ⟨b1, 0, none⟩), .pointer (some ⟨c1, 0, none⟩)] wr fun e w' => e = .returned (.bool true) ∧ St N Bw Bx b0 b1 c0 c1 m0 m1 L w w' := by
  obtain ⟨H0, H1, p0, p1, _⟩ := h.ex
  refine (written_any H1 wr b1 c1 m1 L h.hg p1).mono ?_
  rintro e w' ⟨rfl, hb⟩
  exact ⟨rfl, h.quiet hb⟩
theorem writes0 {N Bw Bx b0 b1 c0 c1 m0 m1 L L' : Nat} {w wr : World} (h : St N Bw Bx b0 b1 c0 c1 m0 m1 L w wr) (o : OpD) (ho : OpOk o) (hL : L + o.s.size + 100 ≤ 140737488355328) (hL' : L + o.s.size + 8 ≤ L') :
    Calls Tryd.prog 16 #[.pointer (some ⟨b0, 0, none⟩), .pointer (some ⟨c0, 0, none⟩), .agg #[.int .i64 o.kind, .int .i64 o.on, .int .i64 o.size, .int .i64 o.n, .string o.s]] wr fun e w' => e = .returned (.tuple #[]) ∧ St N Bw Bx b0 b1 c0 c1 m0 m1 L' w w' := by
  obtain ⟨H0, H1, p0, p1, hd, hl⟩ := h.ex
  refine (writes_any H0 wr b0 c0 m0 L o ho hL p0).mono ?_
  rintro e w' ⟨rfl, x, y⟩
  exact ⟨rfl, St.step0 h.wc h.xc h.hg h.npos h.ns h.below p1 hd hl (x.mono (fun k h _ => h) hL') y (by omega)⟩
theorem writes1 {N Bw Bx b0 b1 c0 c1 m0 m1 L L' : Nat} {w wr : World} (h : St N Bw Bx b0 b1 c0 c1 m0 m1 L w wr) (o : OpD) (ho : OpOk o) (hL : L + o.s.size + 100 ≤ 140737488355328) (hL' : L + o.s.size + 8 ≤ L') :
    Calls Tryd.prog 16 #[.pointer (some ⟨b1, 0, none⟩), .pointer (some ⟨c1, 0, none⟩), .agg #[.int .i64 o.kind, .int .i64 o.on, .int .i64 o.size, .int .i64 o.n, .string o.s]] wr fun e w' => e = .returned (.tuple #[]) ∧ St N Bw Bx b0 b1 c0 c1 m0 m1 L' w w' := by
  obtain ⟨H0, H1, p0, p1, hd, hl⟩ := h.ex
  refine (writes_any H1 wr b1 c1 m1 L o ho hL p1).mono ?_
  rintro e w' ⟨rfl, x, y⟩
  exact ⟨rfl, St.step1 h.wc h.xc h.hg h.npos h.ns h.below p0 hd hl (x.mono (fun k h _ => h) hL') y (by omega)⟩

set_option maxRecDepth 100000 in
set_option maxHeartbeats 4000000 in
theorem codecWrites_some (one two : Int) (h1 : one ≤ 9223372036854775807) (h2 : two ≤ 9223372036854775807) (sb so len cap : Nat) (f : Nat → OpD) (w : World) (hlen : len ≤ 140737488351232) (hok : ∀ i, i < len → OpOk (f i)) (hsb : sb < w.heap.size) (hat : ∀ i, i < len → OpAt w sb so i (f i)) (hg : HG w) :
    Calls Tryd.prog 4 #[.int .i64 one, .int .i64 two, .slice (some ⟨sb, so, none⟩) len cap] w fun e w' => e = .returned (.bool true) ∧ Below w.heap.size w w' := by
  have HOK := hide hok; have HAT := hide hat
  have HGG := hide hg
  have hpos := hg.pos
  clear hok hat hg
  go_enter Tryd.func4, Tryd.ntmps4
  go_wp2_with fail
  refine (size_some sb so len cap f _ hlen HOK.out HAT.out).mono ?_
  rintro e w1 ⟨N1, rfl, hw1, hb1⟩
  have HW := hide hw1; have HB1 := hide hb1
  clear hw1 hb1
  by_cases hbig : 2147483647 < N1
  · go_wp2
    go_ret
    exact ⟨rfl, HB1.out⟩
  go_wp2_with fail
  refine (awake_any _ (HGG.out.below HB1.out hpos)).mono ?_
  rintro e w2 ⟨rfl, hb2⟩
  have HB2 : Hid (Below w.heap.size w w2) := HB1.out.trans (hb2.mono HB1.out.size)
  clear hb2 HB1
  go_wp2_with fail
  refine (newWriter_at one h1 _).mono ?_
  rintro e w3 ⟨rfl, x3, y3, z3⟩
  generalize e3 : w2.heap.size = b0 at x3 y3 z3 ⊢
  have X3 := hide x3; have Y3 := hide y3; have Z3 := hide z3; have E3 := hide e3
  clear x3 y3 z3 e3
  go_wp2_with fail
  refine (newWriter_at two h2 _).mono ?_
  rintro e w4 ⟨rfl, x4, y4, z4⟩
  generalize e4 : w3.heap.size = b1 at x4 y4 z4 ⊢
  have X4 := hide x4; have Y4 := hide y4; have Z4 := hide z4; have E4 := hide e4
  clear x4 y4 z4 e4
  go_wp2_with fail
  refine (refNewWriter_at one h1 _).mono ?_
  rintro e w5 ⟨rfl, x5, y5, z5⟩
  simp only [World.size_alloc] at x5 y5 z5 ⊢
  generalize e5 : w4.heap.size = Bw at x5 y5 z5 ⊢
  have X5 := hide x5; have Y5 := hide y5; have Z5 := hide z5; have E5 := hide e5
  clear x5 y5 z5 e5
  go_wp2_with fail
  refine (refNewWriter_at two h2 _).mono ?_
  rintro e w6 ⟨rfl, x6, y6, z6⟩
  generalize e6 : w5.heap.size = c1 at x6 y6 z6 ⊢
  have X6 := hide x6; have Y6 := hide y6; have Z6 := hide z6; have E6 := hide e6
  clear x6 y6 z6 e6
  have M := hide (st_start h1 h2 HGG.out HB2.out X3.out Y3.out Z3.out E3.out X4.out Y4.out Z4.out E4.out X5.out Y5.out Z5.out E5.out X6.out Y6.out Z6.out E6.out rfl)
  clear X3 Y3 Z3 E3 X4 Y4 Z4 E4 X5 Y5 Z5 E5 X6 Y6 Z6 E6 HB2 h1 h2
  have q0 := cell_of_row _ Bw 0 _ _ _ M.out.wc
  have q1 := cell_of_row _ Bw 1 _ _ _ M.out.wc
  simp only [List.getElem?_toArray, List.getElem?_cons_zero, List.getElem?_cons_succ] at q0 q1
  go_wp2
  clear q0 q1
  generalize w6.heap.size = Bx at M ⊢
  generalize w6.alloc (.cells #[.pointer (some ⟨Bw + 1, 0, none⟩), .pointer (some ⟨c1, 0, none⟩)] 31) = W at M ⊢
  generalize Bw + 1 = c0 at M ⊢
  have hwt : Hid (weight f len ≤ 2147483647) := HW.out hbig
  clear HW HGG
  go_loopw [10] (fun i wr => ∃ k : Nat, k ≤ len ∧ i = .int .i64 k ∧ Hid (St w.heap.size Bw Bx b0 b1 c0 c1 (roomOf one) (roomOf two) (weight f k) w wr)) (fun i _ => len - (intOf i).toNat)
  case atStart => exact ⟨0, Nat.zero_le _, rfl, M.out⟩
  case round =>
    obtain ⟨k, hk, rfl, hst⟩ := hrel
    by_cases hlt : k < len
    · have C := hide (hst.out.cells (HAT.out k hlt) hsb)
      have a2 := C.out.1.2.2.2.1
      have O := HOK.out k hlt
      have HO := hide O
      obtain ⟨o1, o2, o3, o4, o5⟩ := O
      have hp : pickI (f k).on 2 = 0 ∨ pickI (f k).on 2 = 1 := by unfold pickI; omega
      have hwk : weight f (k + 1) ≤ 2147483647 := Nat.le_trans (weight_mono f (k + 1) len hlt) hwt.out
      have HWE : Hid (weight f (k + 1) = weight f k + 100 + (f k).s.size) := rfl
      have hww : weight f k + (f k).s.size + 100 ≤ 2147483647 := by rw [HWE.out] at hwk; omega
      go_wp2_with fail
      refine (pick_any (f k).on 2 o2.1 o2.2 (by decide) (by decide) _).mono ?_
      rintro e w7 ⟨rfl, h7⟩
      subst h7
      clear a2
      rcases hp with hp | hp
      · rw [hp]
        clear hp
        obtain ⟨g1, g2, g3, g4, g5, g6, g7⟩ := C.out.1
        go_wp2
        go_region_held3 (fun w' => w'.cell? ⟨Bw, 0, none⟩ = some (.pointer (some ⟨b0, 0, none⟩)) ∧ w'.cell? ⟨Bx, 0, none⟩ = some (.pointer (some ⟨c0, 0, none⟩)) ∧ w'.cell? ⟨sb, so + k * 5, none⟩ = some (.int .i64 (f k).kind) ∧ w'.cell? ⟨sb, so + k * 5 + 1, none⟩ = some (.int .i64 (f k).on) ∧ w'.cell? ⟨sb, so + k * 5 + 2, none⟩ = some (.int .i64 (f k).size) ∧ w'.cell? ⟨sb, so + k * 5 + 3, none⟩ = some (.int .i64 (f k).n) ∧ w'.cell? ⟨sb, so + k * 5 + 4, none⟩ = some (.string (f k).s)) (first | assumption | (simp [go_sem, *]; done))
          ((go_at_call 16; refine (writes0 (L' := weight f (k + 1)) (hst.out.quiet ((Below.refl _ _).drew)) (f k) HO.out (by omega) (by rw [HWE.out]; omega)).mono ?_; rintro e w8 ⟨rfl, x8⟩; have M8 := hide x8; have g8 := (x8.cells (HAT.out k hlt) hsb).1; clear x8))
        clear g8 g1 g2 g3 g4 g5 g6 g7 C
        go_wp2
        refine wp_loop_rounds 3 ?_
        rw [rounds_succ]
        obtain ⟨g1, g2⟩ := M8.out.ptrs.1
        go_wp2
        go_region_held3 (fun w' => w'.cell? ⟨Bw, 0, none⟩ = some (.pointer (some ⟨b0, 0, none⟩)) ∧ w'.cell? ⟨Bx, 0, none⟩ = some (.pointer (some ⟨c0, 0, none⟩))) (first | assumption | (simp [go_sem, *]; done))
          ((go_at_call 17; refine (written0 (M8.out.quiet ((Below.refl _ _).drew))).mono ?_; rintro e w9 ⟨rfl, x9⟩; have M9 := hide x9; have g9 := x9.ptrs.1; clear x9))
        clear g9 g1 g2
        go_wp2
        rw [rounds_succ]
        obtain ⟨g1, g2⟩ := M9.out.ptrs.2
        go_wp2
        go_region_held3 (fun w' => w'.cell? ⟨Bw, 1, none⟩ = some (.pointer (some ⟨b1, 0, none⟩)) ∧ w'.cell? ⟨Bx, 1, none⟩ = some (.pointer (some ⟨c1, 0, none⟩))) (first | assumption | (simp [go_sem, *]; done))
          ((go_at_call 17; refine (written1 (M9.out.quiet ((Below.refl _ _).drew))).mono ?_; rintro e w10 ⟨rfl, x10⟩; have M10 := hide x10; have g10 := x10.ptrs.2; clear x10))
        clear g10 g1 g2
        go_wp2
        rw [rounds_succ]
        go_wp2
        go_roundw
        case rel => exact ⟨k + 1, by omega, by go_num, M10.out⟩
        case measure => simp [intOf]; omega
      · rw [hp]
        clear hp
        obtain ⟨g1, g2, g3, g4, g5, g6, g7⟩ := C.out.2
        go_wp2
        go_region_held3 (fun w' => w'.cell? ⟨Bw, 1, none⟩ = some (.pointer (some ⟨b1, 0, none⟩)) ∧ w'.cell? ⟨Bx, 1, none⟩ = some (.pointer (some ⟨c1, 0, none⟩)) ∧ w'.cell? ⟨sb, so + k * 5, none⟩ = some (.int .i64 (f k).kind) ∧ w'.cell? ⟨sb, so + k * 5 + 1, none⟩ = some (.int .i64 (f k).on) ∧ w'.cell? ⟨sb, so + k * 5 + 2, none⟩ = some (.int .i64 (f k).size) ∧ w'.cell? ⟨sb, so + k * 5 + 3, none⟩ = some (.int .i64 (f k).n) ∧ w'.cell? ⟨sb, so + k * 5 + 4, none⟩ = some (.string (f k).s)) (first | assumption | (simp [go_sem, *]; done))
          ((go_at_call 16; refine (writes1 (L' := weight f (k + 1)) (hst.out.quiet ((Below.refl _ _).drew)) (f k) HO.out (by omega) (by rw [HWE.out]; omega)).mono ?_; rintro e w8 ⟨rfl, x8⟩; have M8 := hide x8; have g8 := (x8.cells (HAT.out k hlt) hsb).2; clear x8))
        clear g8 g1 g2 g3 g4 g5 g6 g7 C
        go_wp2
        refine wp_loop_rounds 3 ?_
        rw [rounds_succ]
        obtain ⟨g1, g2⟩ := M8.out.ptrs.1
        go_wp2
        go_region_held3 (fun w' => w'.cell? ⟨Bw, 0, none⟩ = some (.pointer (some ⟨b0, 0, none⟩)) ∧ w'.cell? ⟨Bx, 0, none⟩ = some (.pointer (some ⟨c0, 0, none⟩))) (first | assumption | (simp [go_sem, *]; done))
          ((go_at_call 17; refine (written0 (M8.out.quiet ((Below.refl _ _).drew))).mono ?_; rintro e w9 ⟨rfl, x9⟩; have M9 := hide x9; have g9 := x9.ptrs.1; clear x9))
        clear g9 g1 g2
        go_wp2
        rw [rounds_succ]
        obtain ⟨g1, g2⟩ := M9.out.ptrs.2
        go_wp2
        go_region_held3 (fun w' => w'.cell? ⟨Bw, 1, none⟩ = some (.pointer (some ⟨b1, 0, none⟩)) ∧ w'.cell? ⟨Bx, 1, none⟩ = some (.pointer (some ⟨c1, 0, none⟩))) (first | assumption | (simp [go_sem, *]; done))
          ((go_at_call 17; refine (written1 (M9.out.quiet ((Below.refl _ _).drew))).mono ?_; rintro e w10 ⟨rfl, x10⟩; have M10 := hide x10; have g10 := x10.ptrs.2; clear x10))
        clear g10 g1 g2
        go_wp2
        rw [rounds_succ]
        go_wp2
        go_roundw
        case rel => exact ⟨k + 1, by omega, by go_num, M10.out⟩
        case measure => simp [intOf]; omega
    · have hkl : k = len := by omega
      subst hkl
      obtain ⟨⟨g1, g2⟩, ⟨g3, g4⟩⟩ := hst.out.ptrs
      go_wp2
      go_region_held3 (fun w' => w'.cell? ⟨Bw, 0, none⟩ = some (.pointer (some ⟨b0, 0, none⟩)) ∧ w'.cell? ⟨Bx, 0, none⟩ = some (.pointer (some ⟨c0, 0, none⟩))) (first | assumption | (simp [go_sem, *]; done))
        ((go_at_call 17; refine (written0 (hst.out.quiet ((Below.refl _ _).drew))).mono ?_; rintro e w9 ⟨rfl, x9⟩; have M9 := hide x9; have g9 := x9.ptrs.1; clear x9))
      clear g9 g1 g2 g3 g4
      obtain ⟨g1, g2⟩ := M9.out.ptrs.2
      go_wp2
      go_region_held3 (fun w' => w'.cell? ⟨Bw, 1, none⟩ = some (.pointer (some ⟨b1, 0, none⟩)) ∧ w'.cell? ⟨Bx, 1, none⟩ = some (.pointer (some ⟨c1, 0, none⟩))) (first | assumption | (simp [go_sem, *]; done))
        ((go_at_call 17; refine (written1 (M9.out.quiet ((Below.refl _ _).drew))).mono ?_; rintro e w10 ⟨rfl, x10⟩; have M10 := hide x10; have g10 := x10.ptrs.2; clear x10))
      clear g10 g1 g2
      go_wp2
      go_ret
      exact ⟨rfl, M10.out.below⟩

set_option maxRecDepth 100000 in
set_option maxHeartbeats 4000000 in
theorem codecWrites_none (one two : Int) (h1 : one ≤ 9223372036854775807) (h2 : two ≤ 9223372036854775807) (ao : Option Addr) (cap : Nat) (w : World) (hg : HG w) :
    Calls Tryd.prog 4 #[.int .i64 one, .int .i64 two, .slice ao 0 cap] w fun e w' => e = .returned (.bool true) ∧ Below w.heap.size w w' := by
  have HGG := hide hg
  have hpos := hg.pos
  clear hg
  go_enter Tryd.func4, Tryd.ntmps4
  go_wp2_with fail
  refine (size_none ao cap _).mono ?_
  rintro e w1 ⟨rfl, hw1⟩
  subst hw1
  go_wp2_with fail
  refine (awake_any _ HGG.out).mono ?_
  rintro e w2 ⟨rfl, hb2⟩
  have HB2 : Hid (Below w1.heap.size w1 w2) := hb2
  clear hb2
  go_wp2_with fail
  refine (newWriter_at one h1 _).mono ?_
  rintro e w3 ⟨rfl, x3, y3, z3⟩
  generalize e3 : w2.heap.size = b0 at x3 y3 z3 ⊢
  have X3 := hide x3; have Y3 := hide y3; have Z3 := hide z3; have E3 := hide e3
  clear x3 y3 z3 e3
  go_wp2_with fail
  refine (newWriter_at two h2 _).mono ?_
  rintro e w4 ⟨rfl, x4, y4, z4⟩
  generalize e4 : w3.heap.size = b1 at x4 y4 z4 ⊢
  have X4 := hide x4; have Y4 := hide y4; have Z4 := hide z4; have E4 := hide e4
  clear x4 y4 z4 e4
  go_wp2_with fail
  refine (refNewWriter_at one h1 _).mono ?_
  rintro e w5 ⟨rfl, x5, y5, z5⟩
  simp only [World.size_alloc] at x5 y5 z5 ⊢
  generalize e5 : w4.heap.size = Bw at x5 y5 z5 ⊢
  have X5 := hide x5; have Y5 := hide y5; have Z5 := hide z5; have E5 := hide e5
  clear x5 y5 z5 e5
  go_wp2_with fail
  refine (refNewWriter_at two h2 _).mono ?_
  rintro e w6 ⟨rfl, x6, y6, z6⟩
  generalize e6 : w5.heap.size = c1 at x6 y6 z6 ⊢
  have X6 := hide x6; have Y6 := hide y6; have Z6 := hide z6; have E6 := hide e6
  clear x6 y6 z6 e6
  have M := hide (st_start h1 h2 HGG.out HB2.out X3.out Y3.out Z3.out E3.out X4.out Y4.out Z4.out E4.out X5.out Y5.out Z5.out E5.out X6.out Y6.out Z6.out E6.out rfl)
  clear X3 Y3 Z3 E3 X4 Y4 Z4 E4 X5 Y5 Z5 E5 X6 Y6 Z6 E6 HB2 h1 h2
  have q0 := cell_of_row _ Bw 0 _ _ _ M.out.wc
  have q1 := cell_of_row _ Bw 1 _ _ _ M.out.wc
  simp only [List.getElem?_toArray, List.getElem?_cons_zero, List.getElem?_cons_succ] at q0 q1
  go_wp2
  clear q0 q1
  generalize w6.heap.size = Bx at M ⊢
  generalize w6.alloc (.cells #[.pointer (some ⟨Bw + 1, 0, none⟩), .pointer (some ⟨c1, 0, none⟩)] 31) = W at M ⊢
  generalize Bw + 1 = c0 at M ⊢
  clear HGG
  refine wp_loop_rounds 1 ?_
  rw [rounds_succ]
  obtain ⟨⟨g1, g2⟩, ⟨g3, g4⟩⟩ := M.out.ptrs
  go_wp2
  go_region_held3 (fun w' => w'.cell? ⟨Bw, 0, none⟩ = some (.pointer (some ⟨b0, 0, none⟩)) ∧ w'.cell? ⟨Bx, 0, none⟩ = some (.pointer (some ⟨c0, 0, none⟩))) (first | assumption | (simp [go_sem, *]; done))
    ((go_at_call 17; refine (written0 (M.out.quiet ((Below.refl _ _).drew))).mono ?_; rintro e w9 ⟨rfl, x9⟩; have M9 := hide x9; have g9 := x9.ptrs.1; clear x9))
  clear g9 g1 g2 g3 g4
  obtain ⟨g1, g2⟩ := M9.out.ptrs.2
  go_wp2
  go_region_held3 (fun w' => w'.cell? ⟨Bw, 1, none⟩ = some (.pointer (some ⟨b1, 0, none⟩)) ∧ w'.cell? ⟨Bx, 1, none⟩ = some (.pointer (some ⟨c1, 0, none⟩))) (first | assumption | (simp [go_sem, *]; done))
    ((go_at_call 17; refine (written1 (M9.out.quiet ((Below.refl _ _).drew))).mono ?_; rintro e w10 ⟨rfl, x10⟩; have M10 := hide x10; have g10 := x10.ptrs.2; clear x10))
  clear g10 g1 g2
  go_wp2
  go_ret
  exact ⟨rfl, M10.out.below⟩

theorem codecWrites_any (one two : Int) (h1 : one ≤ 9223372036854775807) (h2 : two ≤ 9223372036854775807) (ao : Option Addr) (len cap : Nat) (f : Nat → OpD) (w : World) (hs : Scr w ao len f) (hg : HG w) :
    Calls Tryd.prog 4 #[.int .i64 one, .int .i64 two, .slice ao len cap] w fun e w' => e = .returned (.bool true) ∧ Below w.heap.size w w' := by
  obtain ⟨hl, hok, h0 | ⟨b, off, rfl, hb, hat⟩⟩ := hs
  · subst h0
    exact codecWrites_none one two h1 h2 ao cap w hg
  · exact codecWrites_some one two h1 h2 b off len cap f w hl hok hb hat hg
end Go.Proofs.YtonoobjpafhogaaDoor
