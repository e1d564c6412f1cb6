/-
  A closure over two closures: what a call gives. No condition beyond what the state says.
-/
import Derived.Test.YtljagefcgijmlaaGive
namespace Go.Proofs.Ytljagefcgijmlaa
open Go.RowKit Go.Lib

/-- A cell of a block of cells is written. -/
theorem block_setCell {w : World} {b : Nat} {cs : Array Value} {t : TypeId} {fr : Nat × Nat} (h : w.heap[b]? = some (.cells cs t fr)) (j : Nat) (u : Value) : (w.setCell ⟨b, j, none⟩ u).heap[b]? = some (.cells (cs.set! j u) t fr) := by
  have hlt := lt_of_block h
  have h' : w.heap[b] = .cells cs t fr := by simpa [Array.getElem?_eq_getElem hlt] using h
  show (w.heap.modify b _)[b]? = _
  rw [Array.getElem?_eq_getElem (by simpa using hlt), Array.getElem_modify_self, h']
  rfl
theorem GT.enters (t : GT) : ∀ args w, (callFunc t.fn args).run Try.prog w = .ok (.enter t.fn args) w := by
  cases t with
  | leaf => exact enters_of Try.func84 (by kernel_rfl) rfl
  | node => exact enters_of Try.func85 (by kernel_rfl) rfl
/-- The blocks of a closure over two: apart. -/
structure Apart (am bm a b f g : Nat) (l r : GT) : Prop where
  own : am ≠ bm ∧ am ≠ a ∧ am ≠ b ∧ am ≠ f ∧ am ≠ g ∧ bm ≠ a ∧ bm ≠ b ∧ bm ≠ f ∧ bm ≠ g ∧ a ≠ b ∧ a ≠ f ∧ a ≠ g ∧ b ≠ f ∧ b ≠ g ∧ f ≠ g
  nl : ∀ k, (k = am ∨ k = bm ∨ k = a ∨ k = b ∨ k = f ∨ k = g) → k ∉ l.blocks ∧ k ∉ r.blocks
  lr : ∀ k ∈ l.blocks, k ∉ r.blocks
  dl : l.blocks.Nodup
  dr : r.blocks.Nodup
theorem apart_of {am bm a b f g : Nat} {l r : GT} (h : (GT.node am bm a b f g l r).blocks.Nodup) : Apart am bm a b f g l r := by
  simp only [GT.blocks, List.nodup_cons, List.mem_cons, List.mem_append, not_or, List.nodup_append] at h
  obtain ⟨⟨h1, h2, h3, h4, h5, h6, h7⟩, ⟨i2, i3, i4, i5, i6, i7⟩, ⟨j3, j4, j5, j6, j7⟩, ⟨m4, m5, m6, m7⟩, ⟨n5, n6, n7⟩, ⟨o6, o7⟩, p1, p2, p3⟩ := h
  refine ⟨⟨h1, h2, h3, h4, h5, i2, i3, i4, i5, j3, j4, j5, m4, m5, n5⟩, ?_, fun k hk hr => p3 k hk k hr rfl, p1, p2⟩
  rintro k (rfl | rfl | rfl | rfl | rfl | rfl)
  · exact ⟨h6, h7⟩
  · exact ⟨i6, i7⟩
  · exact ⟨j6, j7⟩
  · exact ⟨m6, m7⟩
  · exact ⟨n6, n7⟩
  · exact ⟨o6, o7⟩
/-- What a closure gives, whatever the world that holds it. -/
def GivesAll (lo : Nat) (t : GT) : Prop := ∀ (w : World) (es : List End), t.At lo w es → t.blocks.Nodup → (∀ k ∈ t.blocks, lo ≤ k) →
  Calls Try.prog t.fn t.caps w fun e w' => Gives es e ∧ t.At lo w' es.tail ∧ Kept (fun k => k ∈ t.blocks) w w'

/-- Five stores: into a's two cells, into m's one, into s's two. -/
def five (w : World) (a m s : Nat) (u1 u2 u3 u4 u5 : Value) : World := ((((w.setCell ⟨a, 0, none⟩ u1).setCell ⟨a, 1, none⟩ u2).setCell ⟨m, 0, none⟩ u3).setCell ⟨s, 0, none⟩ u4).setCell ⟨s, 1, none⟩ u5
theorem five_other (w : World) (a m s : Nat) (u1 u2 u3 u4 u5 : Value) (k : Nat) (h1 : k ≠ a) (h2 : k ≠ m) (h3 : k ≠ s) : (five w a m s u1 u2 u3 u4 u5).heap[k]? = w.heap[k]? := by
  unfold five
  rw [Below.heap_setCell _ _ _ _ h3, Below.heap_setCell _ _ _ _ h3, Below.heap_setCell _ _ _ _ h2, Below.heap_setCell _ _ _ _ h1, Below.heap_setCell _ _ _ _ h1]
theorem five_a (w : World) (a m s : Nat) (u1 u2 u3 u4 u5 p q : Value) (h : w.heap[a]? = some (.cells #[p, q] 81 (0, 0))) (h2 : a ≠ m) (h3 : a ≠ s) : (five w a m s u1 u2 u3 u4 u5).heap[a]? = some (.cells #[u1, u2] 81 (0, 0)) := by
  unfold five
  rw [Below.heap_setCell _ _ _ _ h3, Below.heap_setCell _ _ _ _ h3, Below.heap_setCell _ _ _ _ h2, block_setCell (block_setCell h 0 u1) 1 u2]
  rfl
theorem five_m (w : World) (a m s : Nat) (u1 u2 u3 u4 u5 p : Value) (h : w.heap[m]? = some (.cells #[p] 4 (0, 0))) (h2 : m ≠ a) (h3 : m ≠ s) : (five w a m s u1 u2 u3 u4 u5).heap[m]? = some (.cells #[u3] 4 (0, 0)) := by
  unfold five
  rw [Below.heap_setCell _ _ _ _ h3, Below.heap_setCell _ _ _ _ h3]
  refine (block_setCell (cs := #[p]) ?_ 0 u3).trans rfl
  rw [Below.heap_setCell _ _ _ _ h2, Below.heap_setCell _ _ _ _ h2]
  exact h
theorem five_size (w : World) (a m s : Nat) (u1 u2 u3 u4 u5 : Value) : (five w a m s u1 u2 u3 u4 u5).heap.size = w.heap.size := by simp [five, World.setCell]
theorem five_kept (w : World) (a m s : Nat) (u1 u2 u3 u4 u5 : Value) : Kept (fun k => k = a ∨ k = m ∨ k = s) w (five w a m s u1 u2 u3 u4 u5) := by
  unfold five
  exact (((((Kept.refl (fun k => k = a ∨ k = m ∨ k = s) w).setCell (p := ⟨a, 0, none⟩) (.inl rfl) u1).setCell (p := ⟨a, 1, none⟩) (.inl rfl) u2).setCell (p := ⟨m, 0, none⟩) (.inr (.inl rfl)) u3).setCell (p := ⟨s, 0, none⟩) (.inr (.inr rfl)) u4).setCell (p := ⟨s, 1, none⟩) (.inr (.inr rfl)) u5

theorem takeA_post {lo am bm a b f g : Nat} {l r : GT} {w w2 : World} {A B : List End} {ea eb x2 : End} {u4 u5 : Value} {es : List End} {s : Nat} (h : NodeAt w am bm a b f g l r (ea :: A) B ea eb) (P : Apart am bm a b f g l r) (hlo : ∀ k ∈ (GT.node am bm a b f g l r).blocks, lo ≤ k)
    (hr : r.At lo w B.tail) (hl0 : ∀ k ∈ l.blocks, k < w.heap.size) (at2 : l.At lo w2 A.tail) (k2 : Kept (fun k => k ∈ l.blocks) w w2) (hx2 : ∀ y ys, A = y :: ys → x2 = y) (hs : w.heap.size ≤ s) (hlos : lo ≤ w.heap.size) (hes : es = ea :: A.merge B leE) :
    Gives es (.returned (.tuple #[.agg #[.int .i64 ea.1, .int .i64 ea.2], .bool true])) ∧ (GT.node am bm a b f g l r).At lo (five w2 a am s (.int .i64 x2.1) (.int .i64 x2.2) (.bool (!A.isEmpty)) u4 u5) es.tail ∧ Kept (fun k => k ∈ (GT.node am bm a b f g l r).blocks) w (five w2 a am s (.int .i64 x2.1) (.int .i64 x2.2) (.bool (!A.isEmpty)) u4 u5) := by
  obtain ⟨p1, p2, p3, p4, p5, p6, p7, p8, p9, p10, p11, p12, p13, p14, p15⟩ := P.own
  have hb := fun k (hk : k ∈ (GT.node am bm a b f g l r).blocks) => hlo k hk
  simp only [GT.blocks, List.mem_cons, List.mem_append] at hb
  have l1 := lt_of_block h.amc
  have l2 := lt_of_block h.bmc
  have l3 := lt_of_block h.ac
  have l4 := lt_of_block h.bc
  have l5 := lt_of_block h.fc
  have l6 := lt_of_block h.gc
  have hkk : Kept (fun k => k ∈ l.blocks ∨ k = a ∨ k = am) w (five w2 a am s (.int .i64 x2.1) (.int .i64 x2.2) (.bool (!A.isEmpty)) u4 u5) :=
    (k2.mono (fun i hi => .inl hi)).trans_new (five_kept w2 a am s _ _ _ _ _) (fun i hi hG => by
      rcases hG with h | h | h
      · exact .inr (.inl h)
      · exact .inr (.inr h)
      · omega)
  have keep : ∀ k, (k = bm ∨ k = b ∨ k = f ∨ k = g) → k < w.heap.size → (five w2 a am s (.int .i64 x2.1) (.int .i64 x2.2) (.bool (!A.isEmpty)) u4 u5).heap[k]? = w.heap[k]? := fun k hk hlt =>
    hkk.block k hlt (by
      rintro (h | h | h)
      · exact (P.nl k (by rcases hk with h | h | h | h <;> simp [h])).1 h
      · subst h; omega
      · subst h; omega)
  refine ⟨⟨ea, by rw [hes]; rfl, fun y ys hy => by rw [hes] at hy; exact (List.cons.inj hy).1⟩, ?_, ?_⟩
  · rw [hes]
    refine ⟨A, B, x2, eb, ⟨?_, (keep bm (by simp) l2).trans h.bmc, ?_, (keep b (by simp) l4).trans h.bc, (keep f (by simp) l5).trans h.fc, (keep g (by simp) l6).trans h.gc, hx2, h.hB⟩, ?_, ?_, rfl⟩
    · exact five_m _ _ _ _ _ _ _ _ _ _ ((k2.block am l1 (P.nl am (by simp)).1).trans h.amc) p2 (by omega)
    · exact five_a _ _ _ _ _ _ _ _ _ _ _ ((k2.block a l3 (P.nl a (by simp)).1).trans h.ac) (fun e => p2 e.symm) (by omega)
    · refine GT.At.kept (five_kept w2 a am s _ _ _ _ _) ?_ at2 ?_
      · rintro k hk (rfl | rfl | rfl)
        · have := hb k (by simp); omega
        · have := hb k (by simp); omega
        · omega
      · rintro k hk (rfl | rfl | rfl)
        · exact (P.nl k (by simp)).1 hk
        · exact (P.nl k (by simp)).1 hk
        · have := hl0 k hk; omega
    · refine GT.At.kept hkk ?_ hr ?_
      · rintro k hk (h | rfl | rfl)
        · have := hb k (by simp [h]); omega
        · have := hb k (by simp); omega
        · have := hb k (by simp); omega
      · rintro k hk (h | rfl | rfl)
        · exact P.lr k h hk
        · exact (P.nl k (by simp)).2 hk
        · exact (P.nl k (by simp)).2 hk
  · refine hkk.mono ?_
    rintro i (h | rfl | rfl) <;> simp [GT.blocks, *]

/-- What is left to be given where the second one is asked. -/
def EsB (A B es : List End) (eb : End) : Prop := (B = [] ∧ A = [] ∧ es = []) ∨ ∃ B', B = eb :: B' ∧ es = eb :: A.merge B' leE
theorem takeB_post {lo am bm a b f g : Nat} {l r : GT} {w w2 : World} {A B : List End} {ea eb x2 : End} {u4 u5 : Value} {es : List End} {s : Nat} (h : NodeAt w am bm a b f g l r A B ea eb) (P : Apart am bm a b f g l r) (hlo : ∀ k ∈ (GT.node am bm a b f g l r).blocks, lo ≤ k)
    (hl : l.At lo w A.tail) (hr0 : ∀ k ∈ r.blocks, k < w.heap.size) (at2 : r.At lo w2 B.tail.tail) (k2 : Kept (fun k => k ∈ r.blocks) w w2) (hx2 : ∀ y ys, B.tail = y :: ys → x2 = y) (hs : w.heap.size ≤ s) (hlos : lo ≤ w.heap.size)
    (hes : EsB A B es eb) :
    Gives es (.returned (.tuple #[.agg #[.int .i64 eb.1, .int .i64 eb.2], .bool (!B.isEmpty)])) ∧ (GT.node am bm a b f g l r).At lo (five w2 b bm s (.int .i64 x2.1) (.int .i64 x2.2) (.bool (!B.tail.isEmpty)) u4 u5) es.tail ∧ Kept (fun k => k ∈ (GT.node am bm a b f g l r).blocks) w (five w2 b bm s (.int .i64 x2.1) (.int .i64 x2.2) (.bool (!B.tail.isEmpty)) u4 u5) := by
  obtain ⟨p1, p2, p3, p4, p5, p6, p7, p8, p9, p10, p11, p12, p13, p14, p15⟩ := P.own
  have hb := fun k (hk : k ∈ (GT.node am bm a b f g l r).blocks) => hlo k hk
  simp only [GT.blocks, List.mem_cons, List.mem_append] at hb
  have l1 := lt_of_block h.amc
  have l2 := lt_of_block h.bmc
  have l3 := lt_of_block h.ac
  have l4 := lt_of_block h.bc
  have l5 := lt_of_block h.fc
  have l6 := lt_of_block h.gc
  have hkk : Kept (fun k => k ∈ r.blocks ∨ k = b ∨ k = bm) w (five w2 b bm s (.int .i64 x2.1) (.int .i64 x2.2) (.bool (!B.tail.isEmpty)) u4 u5) :=
    (k2.mono (fun i hi => .inl hi)).trans_new (five_kept w2 b bm s _ _ _ _ _) (fun i hi hG => by
      rcases hG with h | h | h
      · exact .inr (.inl h)
      · exact .inr (.inr h)
      · omega)
  have keep : ∀ k, (k = am ∨ k = a ∨ k = f ∨ k = g) → k < w.heap.size → (five w2 b bm s (.int .i64 x2.1) (.int .i64 x2.2) (.bool (!B.tail.isEmpty)) u4 u5).heap[k]? = w.heap[k]? := fun k hk hlt =>
    hkk.block k hlt (by
      rintro (h | h | h)
      · exact (P.nl k (by rcases hk with h | h | h | h <;> simp [h])).2 h
      · subst h; omega
      · subst h; omega)
  have hst : (GT.node am bm a b f g l r).At lo (five w2 b bm s (.int .i64 x2.1) (.int .i64 x2.2) (.bool (!B.tail.isEmpty)) u4 u5) (A.merge B.tail leE) := by
    refine ⟨A, B.tail, ea, x2, ⟨(keep am (by simp) l1).trans h.amc, ?_, (keep a (by simp) l3).trans h.ac, ?_, (keep f (by simp) l5).trans h.fc, (keep g (by simp) l6).trans h.gc, h.hA, hx2⟩, ?_, ?_, rfl⟩
    · exact five_m _ _ _ _ _ _ _ _ _ _ ((k2.block bm l2 (P.nl bm (by simp)).2).trans h.bmc) p7 (by omega)
    · exact five_a _ _ _ _ _ _ _ _ _ _ _ ((k2.block b l4 (P.nl b (by simp)).2).trans h.bc) (fun e => p7 e.symm) (by omega)
    · refine GT.At.kept hkk ?_ hl ?_
      · rintro k hk (h | rfl | rfl)
        · have := hb k (by simp [h]); omega
        · have := hb k (by simp); omega
        · have := hb k (by simp); omega
      · rintro k hk (h | rfl | rfl)
        · exact P.lr k hk h
        · exact (P.nl k (by simp)).1 hk
        · exact (P.nl k (by simp)).1 hk
    · refine GT.At.kept (five_kept w2 b bm s _ _ _ _ _) ?_ at2 ?_
      · rintro k hk (rfl | rfl | rfl)
        · have := hb k (by simp); omega
        · have := hb k (by simp); omega
        · omega
      · rintro k hk (rfl | rfl | rfl)
        · exact (P.nl k (by simp)).2 hk
        · exact (P.nl k (by simp)).2 hk
        · have := hr0 k hk; omega
  have hkf : Kept (fun k => k ∈ (GT.node am bm a b f g l r).blocks) w (five w2 b bm s (.int .i64 x2.1) (.int .i64 x2.2) (.bool (!B.tail.isEmpty)) u4 u5) := by
    refine hkk.mono ?_
    rintro i (h | rfl | rfl) <;> simp [GT.blocks, *]
  rcases hes with ⟨rfl, rfl, rfl⟩ | ⟨B', rfl, rfl⟩
  · exact ⟨⟨eb, rfl, fun y ys hy => by cases hy⟩, by simpa using hst, hkf⟩
  · exact ⟨⟨eb, rfl, fun y ys hy => (List.cons.inj hy).1⟩, hst, hkf⟩

set_option maxRecDepth 100000 in
set_option maxHeartbeats 2000000 in
theorem give_node (lo am bm a b f g : Nat) (l r : GT) (il : GivesAll lo l) (ir : GivesAll lo r) : GivesAll lo (.node am bm a b f g l r) := by
  intro w es h hn hlo
  obtain ⟨A, B, ea, eb, h, hl, hr, hes⟩ := h
  simp only [GT.fn, GT.caps, ptr]
  have hnl := hl.lt
  have hnr := hr.lt
  have l1 := lt_of_block h.amc
  have l2 := lt_of_block h.bmc
  have l3 := lt_of_block h.ac
  have l4 := lt_of_block h.bc
  have l5 := lt_of_block h.fc
  have l6 := lt_of_block h.gc
  have c1 := cell_of_one h.amc
  have c2 := cell_of_one h.bmc
  have c3 : w.cell? ⟨a, 0, none⟩ = some (.int .i64 ea.1) := by rw [cell_of_row w a 0 _ _ _ h.ac]; rfl
  have c3' : w.cell? ⟨a, 1, none⟩ = some (.int .i64 ea.2) := by rw [cell_of_row w a 1 _ _ _ h.ac]; rfl
  have c4 : w.cell? ⟨b, 0, none⟩ = some (.int .i64 eb.1) := by rw [cell_of_row w b 0 _ _ _ h.bc]; rfl
  have c4' : w.cell? ⟨b, 1, none⟩ = some (.int .i64 eb.2) := by rw [cell_of_row w b 1 _ _ _ h.bc]; rfl
  have c5 := cell_of_one h.fc
  have c6 := cell_of_one h.gc
  unfold GT.val at c5 c6
  have egl := l.enters
  have egr := r.enters
  have HH := hide h
  have HN := hide hn
  have HLO := hide hlo
  have HL := hide hl
  have HR := hide hr
  have HES := hide hes
  have HNL := hide hnl
  have HNR := hide hnr
  have HIL := hide il
  have HIR := hide ir
  have P := apart_of hn
  have HLS : Hid (lo ≤ w.heap.size) := Nat.le_trans (hlo am (by simp [GT.blocks])) (Nat.le_of_lt l1)
  clear h hn hlo hl hr hes hnl hnr il ir
  obtain ⟨p1, p2, p3, p4, p5, p6, p7, p8, p9, p10, p11, p12, p13, p14, p15⟩ := P.own
  cases A with
  | nil =>
    simp only [List.isEmpty_nil, Bool.not_true] at c1
    cases B with
    | nil =>
      simp only [List.isEmpty_nil, Bool.not_true] at c2
      have HE : Hid (EsB [] [] es eb) := .inl ⟨rfl, rfl, by rw [HES.out]; simp⟩
      have hw1 : Below w.heap.size w (((w.alloc (.cells #[.int .i64 0, .int .i64 0] 81)).alloc (.cells #[.int .i64 eb.1, .int .i64 eb.2] 81)).drew) := (((Below.refl _ _).alloc (Nat.le_refl _) _).alloc (by simp) _).drew
      generalize hW : ((w.alloc (.cells #[.int .i64 0, .int .i64 0] 81)).alloc (.cells #[.int .i64 eb.1, .int .i64 eb.2] 81)).drew = W at hw1
      have s1 : W.heap.size = w.heap.size + 2 := by rw [← hW]; first | (simp; done) | (simp [World.drew]; done)
      have n1 : W.heap[w.heap.size]? = some (.cells #[.int .i64 0, .int .i64 0] 81 (0, 0)) := by
        rw [← hW]
        exact (Below.heap_alloc _ _ _ (by simp)).trans (heap_alloc_new w _)
      have n2 : W.heap[w.heap.size + 1]? = some (.cells #[.int .i64 eb.1, .int .i64 eb.2] 81 (0, 0)) := by
        rw [← hW]
        show ((w.alloc (.cells #[.int .i64 0, .int .i64 0] 81)).alloc (.cells #[.int .i64 eb.1, .int .i64 eb.2] 81)).heap[w.heap.size + 1]? = _
        have := heap_alloc_new (w.alloc (.cells #[.int .i64 0, .int .i64 0] 81)) (.cells #[.int .i64 eb.1, .int .i64 eb.2] 81)
        simpa using this
      have hcon := HIR.out W _ (GT.At.kept (F := fun _ => False) (Kept.of_below hw1) (fun _ _ h => h) HR.out (fun _ _ h => h)) P.dr (fun k hk => HLO.out k (by simp [GT.blocks, hk]))
      have HWE := hide hW
      clear hW
      go_enter Try.func85, Try.ntmps85
      go_wp2_with (fail)
      go_region
      go_wp2_with (fail)
      rw [HWE.out]
      refine hcon.mono ?_
      rintro e w2 ⟨⟨x2, rfl, hx2⟩, at2, k2⟩
      have hk2 : Kept (fun k => k ∈ r.blocks) w w2 := (Kept.of_below hw1).trans k2
      have e1 : w2.heap[bm]? = some (.cells #[.bool false] 4 (0, 0)) := (hk2.block bm l2 (P.nl bm (by simp)).2).trans HH.out.bmc
      have e2 : w2.heap[b]? = some (.cells #[.int .i64 eb.1, .int .i64 eb.2] 81 (0, 0)) := (hk2.block b l4 (P.nl b (by simp)).2).trans HH.out.bc
      have m1 : w2.heap[w.heap.size]? = some (.cells #[.int .i64 0, .int .i64 0] 81 (0, 0)) := (k2.block _ (by omega) (fun hm => by have := HNR.out _ hm; omega)).trans n1
      have m2 : w2.heap[w.heap.size + 1]? = some (.cells #[.int .i64 eb.1, .int .i64 eb.2] 81 (0, 0)) := (k2.block _ (by omega) (fun hm => by have := HNR.out _ hm; omega)).trans n2
      have d1 := cell_of_one e1
      have d1' := free_of_one e1
      have d2 : w2.cell? ⟨b, 0, none⟩ = some (.int .i64 eb.1) := by rw [cell_of_row w2 b 0 _ _ _ e2]; rfl
      have d3 : w2.cell? ⟨b, 1, none⟩ = some (.int .i64 eb.2) := by rw [cell_of_row w2 b 1 _ _ _ e2]; rfl
      have d2' := frozen_of_row w2 b 0 _ _ e2
      have d3' := frozen_of_row w2 b 1 _ _ e2
      have d4 : w2.cell? ⟨w.heap.size, 0, none⟩ = some (.int .i64 0) := by rw [cell_of_row w2 _ 0 _ _ _ m1]; rfl
      have d5 : w2.cell? ⟨w.heap.size, 1, none⟩ = some (.int .i64 0) := by rw [cell_of_row w2 _ 1 _ _ _ m1]; rfl
      have d4' := frozen_of_row w2 w.heap.size 0 _ _ m1
      have d5' := frozen_of_row w2 w.heap.size 1 _ _ m1
      have d6 : w2.cell? ⟨w.heap.size + 1, 0, none⟩ = some (.int .i64 eb.1) := by rw [cell_of_row w2 _ 0 _ _ _ m2]; rfl
      have d7 : w2.cell? ⟨w.heap.size + 1, 1, none⟩ = some (.int .i64 eb.2) := by rw [cell_of_row w2 _ 1 _ _ _ m2]; rfl
      have z1 : b ≠ w.heap.size := by omega
      have z2 : b ≠ w.heap.size + 1 := by omega
      have z3 : bm ≠ w.heap.size := by omega
      have z4 : bm ≠ w.heap.size + 1 := by omega
      have AT2 := hide at2
      have K2 := hide hk2
      have HX2 := hide hx2
      clear at2 k2 hk2 hx2 hcon n1 n2 hw1
      go_wp2
      (try simp only [Exit.inBlock, Exit.then])
      refine bodyPost_ret (v := .tuple #[.agg #[.int .i64 eb.1, .int .i64 eb.2], .bool false]) ?_ rfl ?_
      · rw [results_cell_tmp rfl]
        go_simp
      · exact takeB_post HH.out P HLO.out HL.out HNR.out AT2.out K2.out HX2.out (Nat.le_refl _) HLS.out HE.out
    | cons y B =>
      have hy : eb = y := HH.out.hB y B rfl
      subst hy
      simp only [List.isEmpty_cons, Bool.not_false] at c2
      have HE : Hid (EsB [] (eb :: B) es eb) := .inr ⟨B, rfl, by rw [HES.out]; simp⟩
      have hw1 : Below w.heap.size w (((w.alloc (.cells #[.int .i64 0, .int .i64 0] 81)).alloc (.cells #[.int .i64 eb.1, .int .i64 eb.2] 81)).drew) := (((Below.refl _ _).alloc (Nat.le_refl _) _).alloc (by simp) _).drew
      generalize hW : ((w.alloc (.cells #[.int .i64 0, .int .i64 0] 81)).alloc (.cells #[.int .i64 eb.1, .int .i64 eb.2] 81)).drew = W at hw1
      have s1 : W.heap.size = w.heap.size + 2 := by rw [← hW]; first | (simp; done) | (simp [World.drew]; done)
      have n1 : W.heap[w.heap.size]? = some (.cells #[.int .i64 0, .int .i64 0] 81 (0, 0)) := by
        rw [← hW]
        exact (Below.heap_alloc _ _ _ (by simp)).trans (heap_alloc_new w _)
      have n2 : W.heap[w.heap.size + 1]? = some (.cells #[.int .i64 eb.1, .int .i64 eb.2] 81 (0, 0)) := by
        rw [← hW]
        show ((w.alloc (.cells #[.int .i64 0, .int .i64 0] 81)).alloc (.cells #[.int .i64 eb.1, .int .i64 eb.2] 81)).heap[w.heap.size + 1]? = _
        have := heap_alloc_new (w.alloc (.cells #[.int .i64 0, .int .i64 0] 81)) (.cells #[.int .i64 eb.1, .int .i64 eb.2] 81)
        simpa using this
      have hcon := HIR.out W _ (GT.At.kept (F := fun _ => False) (Kept.of_below hw1) (fun _ _ h => h) HR.out (fun _ _ h => h)) P.dr (fun k hk => HLO.out k (by simp [GT.blocks, hk]))
      have HWE := hide hW
      clear hW
      go_enter Try.func85, Try.ntmps85
      go_wp2_with (fail)
      go_region
      go_wp2_with (fail)
      rw [HWE.out]
      refine hcon.mono ?_
      rintro e w2 ⟨⟨x2, rfl, hx2⟩, at2, k2⟩
      have hk2 : Kept (fun k => k ∈ r.blocks) w w2 := (Kept.of_below hw1).trans k2
      have e1 : w2.heap[bm]? = some (.cells #[.bool true] 4 (0, 0)) := (hk2.block bm l2 (P.nl bm (by simp)).2).trans HH.out.bmc
      have e2 : w2.heap[b]? = some (.cells #[.int .i64 eb.1, .int .i64 eb.2] 81 (0, 0)) := (hk2.block b l4 (P.nl b (by simp)).2).trans HH.out.bc
      have m1 : w2.heap[w.heap.size]? = some (.cells #[.int .i64 0, .int .i64 0] 81 (0, 0)) := (k2.block _ (by omega) (fun hm => by have := HNR.out _ hm; omega)).trans n1
      have m2 : w2.heap[w.heap.size + 1]? = some (.cells #[.int .i64 eb.1, .int .i64 eb.2] 81 (0, 0)) := (k2.block _ (by omega) (fun hm => by have := HNR.out _ hm; omega)).trans n2
      have d1 := cell_of_one e1
      have d1' := free_of_one e1
      have d2 : w2.cell? ⟨b, 0, none⟩ = some (.int .i64 eb.1) := by rw [cell_of_row w2 b 0 _ _ _ e2]; rfl
      have d3 : w2.cell? ⟨b, 1, none⟩ = some (.int .i64 eb.2) := by rw [cell_of_row w2 b 1 _ _ _ e2]; rfl
      have d2' := frozen_of_row w2 b 0 _ _ e2
      have d3' := frozen_of_row w2 b 1 _ _ e2
      have d4 : w2.cell? ⟨w.heap.size, 0, none⟩ = some (.int .i64 0) := by rw [cell_of_row w2 _ 0 _ _ _ m1]; rfl
      have d5 : w2.cell? ⟨w.heap.size, 1, none⟩ = some (.int .i64 0) := by rw [cell_of_row w2 _ 1 _ _ _ m1]; rfl
      have d4' := frozen_of_row w2 w.heap.size 0 _ _ m1
      have d5' := frozen_of_row w2 w.heap.size 1 _ _ m1
      have d6 : w2.cell? ⟨w.heap.size + 1, 0, none⟩ = some (.int .i64 eb.1) := by rw [cell_of_row w2 _ 0 _ _ _ m2]; rfl
      have d7 : w2.cell? ⟨w.heap.size + 1, 1, none⟩ = some (.int .i64 eb.2) := by rw [cell_of_row w2 _ 1 _ _ _ m2]; rfl
      have z1 : b ≠ w.heap.size := by omega
      have z2 : b ≠ w.heap.size + 1 := by omega
      have z3 : bm ≠ w.heap.size := by omega
      have z4 : bm ≠ w.heap.size + 1 := by omega
      have AT2 := hide at2
      have K2 := hide hk2
      have HX2 := hide hx2
      clear at2 k2 hk2 hx2 hcon n1 n2 hw1
      go_wp2
      (try simp only [Exit.inBlock, Exit.then])
      refine bodyPost_ret (v := .tuple #[.agg #[.int .i64 eb.1, .int .i64 eb.2], .bool true]) ?_ rfl ?_
      · rw [results_cell_tmp rfl]
        go_simp
      · exact takeB_post HH.out P HLO.out HL.out HNR.out AT2.out K2.out HX2.out (Nat.le_refl _) HLS.out HE.out
  | cons x A =>
    have hx : ea = x := HH.out.hA x A rfl
    subst hx
    simp only [List.isEmpty_cons, Bool.not_false] at c1
    cases B with
    | nil =>
      simp only [List.isEmpty_nil, Bool.not_true] at c2
      have HE : Hid (es = ea :: A.merge [] leE) := by rw [Hid, HES.out]; simp
      have hw1 : Below w.heap.size w ((w.alloc (.cells #[.int .i64 0, .int .i64 0] 81)).alloc (.cells #[.int .i64 ea.1, .int .i64 ea.2] 81)) := (((Below.refl _ _).alloc (Nat.le_refl _) _)).alloc (by simp) _
      generalize hW : (w.alloc (.cells #[.int .i64 0, .int .i64 0] 81)).alloc (.cells #[.int .i64 ea.1, .int .i64 ea.2] 81) = W at hw1
      have s1 : W.heap.size = w.heap.size + 2 := by rw [← hW]; first | (simp; done) | (simp [World.drew]; done)
      have n1 : W.heap[w.heap.size]? = some (.cells #[.int .i64 0, .int .i64 0] 81 (0, 0)) := by
        rw [← hW]
        exact (Below.heap_alloc _ _ _ (by simp)).trans (heap_alloc_new w _)
      have n2 : W.heap[w.heap.size + 1]? = some (.cells #[.int .i64 ea.1, .int .i64 ea.2] 81 (0, 0)) := by
        rw [← hW]
        have := heap_alloc_new (w.alloc (.cells #[.int .i64 0, .int .i64 0] 81)) (.cells #[.int .i64 ea.1, .int .i64 ea.2] 81)
        simpa using this
      have hcon := HIL.out W _ (GT.At.kept (F := fun _ => False) (Kept.of_below hw1) (fun _ _ h => h) HL.out (fun _ _ h => h)) P.dl (fun k hk => HLO.out k (by simp [GT.blocks, hk]))
      have HWE := hide hW
      clear hW
      go_enter Try.func85, Try.ntmps85
      go_wp2_with (fail)
      rw [HWE.out]
      refine hcon.mono ?_
      rintro e w2 ⟨⟨x2, rfl, hx2⟩, at2, k2⟩
      have hk2 : Kept (fun k => k ∈ l.blocks) w w2 := (Kept.of_below hw1).trans k2
      have e1 : w2.heap[am]? = some (.cells #[.bool true] 4 (0, 0)) := (hk2.block am l1 (P.nl am (by simp)).1).trans HH.out.amc
      have e2 : w2.heap[a]? = some (.cells #[.int .i64 ea.1, .int .i64 ea.2] 81 (0, 0)) := (hk2.block a l3 (P.nl a (by simp)).1).trans HH.out.ac
      have m1 : w2.heap[w.heap.size]? = some (.cells #[.int .i64 0, .int .i64 0] 81 (0, 0)) := (k2.block _ (by omega) (fun hm => by have := HNL.out _ hm; omega)).trans n1
      have m2 : w2.heap[w.heap.size + 1]? = some (.cells #[.int .i64 ea.1, .int .i64 ea.2] 81 (0, 0)) := (k2.block _ (by omega) (fun hm => by have := HNL.out _ hm; omega)).trans n2
      have d1 := cell_of_one e1
      have d1' := free_of_one e1
      have d2 : w2.cell? ⟨a, 0, none⟩ = some (.int .i64 ea.1) := by rw [cell_of_row w2 a 0 _ _ _ e2]; rfl
      have d3 : w2.cell? ⟨a, 1, none⟩ = some (.int .i64 ea.2) := by rw [cell_of_row w2 a 1 _ _ _ e2]; rfl
      have d2' := frozen_of_row w2 a 0 _ _ e2
      have d3' := frozen_of_row w2 a 1 _ _ e2
      have d4 : w2.cell? ⟨w.heap.size, 0, none⟩ = some (.int .i64 0) := by rw [cell_of_row w2 _ 0 _ _ _ m1]; rfl
      have d5 : w2.cell? ⟨w.heap.size, 1, none⟩ = some (.int .i64 0) := by rw [cell_of_row w2 _ 1 _ _ _ m1]; rfl
      have d4' := frozen_of_row w2 w.heap.size 0 _ _ m1
      have d5' := frozen_of_row w2 w.heap.size 1 _ _ m1
      have d6 : w2.cell? ⟨w.heap.size + 1, 0, none⟩ = some (.int .i64 ea.1) := by rw [cell_of_row w2 _ 0 _ _ _ m2]; rfl
      have d7 : w2.cell? ⟨w.heap.size + 1, 1, none⟩ = some (.int .i64 ea.2) := by rw [cell_of_row w2 _ 1 _ _ _ m2]; rfl
      have z1 : a ≠ w.heap.size := by omega
      have z2 : a ≠ w.heap.size + 1 := by omega
      have z3 : am ≠ w.heap.size := by omega
      have z4 : am ≠ w.heap.size + 1 := by omega
      have AT2 := hide at2
      have K2 := hide hk2
      have HX2 := hide hx2
      clear at2 k2 hk2 hx2 hcon n1 n2 hw1
      go_wp2
      (try simp only [Exit.inBlock, Exit.then])
      refine bodyPost_ret (v := .tuple #[.agg #[.int .i64 ea.1, .int .i64 ea.2], .bool true]) ?_ rfl ?_
      · rw [results_cell_tmp rfl]
        go_simp
      · exact takeA_post HH.out P HLO.out HR.out HNL.out AT2.out K2.out HX2.out (Nat.le_refl _) HLS.out HE.out
    | cons y B =>
      have hy : eb = y := HH.out.hB y B rfl
      subst hy
      simp only [List.isEmpty_cons, Bool.not_false] at c2
      by_cases hle : ea.1 ≤ eb.1
      · have HE : Hid (es = ea :: A.merge (eb :: B) leE) := by rw [Hid, HES.out, List.cons_merge_cons, if_pos (by simpa [leE] using hle)]
        have hw1 : Below w.heap.size w ((w.alloc (.cells #[.int .i64 0, .int .i64 0] 81)).alloc (.cells #[.int .i64 ea.1, .int .i64 ea.2] 81)) := (((Below.refl _ _).alloc (Nat.le_refl _) _)).alloc (by simp) _
        generalize hW : (w.alloc (.cells #[.int .i64 0, .int .i64 0] 81)).alloc (.cells #[.int .i64 ea.1, .int .i64 ea.2] 81) = W at hw1
        have s1 : W.heap.size = w.heap.size + 2 := by rw [← hW]; first | (simp; done) | (simp [World.drew]; done)
        have n1 : W.heap[w.heap.size]? = some (.cells #[.int .i64 0, .int .i64 0] 81 (0, 0)) := by
          rw [← hW]
          exact (Below.heap_alloc _ _ _ (by simp)).trans (heap_alloc_new w _)
        have n2 : W.heap[w.heap.size + 1]? = some (.cells #[.int .i64 ea.1, .int .i64 ea.2] 81 (0, 0)) := by
          rw [← hW]
          have := heap_alloc_new (w.alloc (.cells #[.int .i64 0, .int .i64 0] 81)) (.cells #[.int .i64 ea.1, .int .i64 ea.2] 81)
          simpa using this
        have hcon := HIL.out W _ (GT.At.kept (F := fun _ => False) (Kept.of_below hw1) (fun _ _ h => h) HL.out (fun _ _ h => h)) P.dl (fun k hk => HLO.out k (by simp [GT.blocks, hk]))
        have HWE := hide hW
        clear hW
        go_enter Try.func85, Try.ntmps85
        go_wp2_with (fail)
        rw [HWE.out]
        refine hcon.mono ?_
        rintro e w2 ⟨⟨x2, rfl, hx2⟩, at2, k2⟩
        have hk2 : Kept (fun k => k ∈ l.blocks) w w2 := (Kept.of_below hw1).trans k2
        have e1 : w2.heap[am]? = some (.cells #[.bool true] 4 (0, 0)) := (hk2.block am l1 (P.nl am (by simp)).1).trans HH.out.amc
        have e2 : w2.heap[a]? = some (.cells #[.int .i64 ea.1, .int .i64 ea.2] 81 (0, 0)) := (hk2.block a l3 (P.nl a (by simp)).1).trans HH.out.ac
        have m1 : w2.heap[w.heap.size]? = some (.cells #[.int .i64 0, .int .i64 0] 81 (0, 0)) := (k2.block _ (by omega) (fun hm => by have := HNL.out _ hm; omega)).trans n1
        have m2 : w2.heap[w.heap.size + 1]? = some (.cells #[.int .i64 ea.1, .int .i64 ea.2] 81 (0, 0)) := (k2.block _ (by omega) (fun hm => by have := HNL.out _ hm; omega)).trans n2
        have d1 := cell_of_one e1
        have d1' := free_of_one e1
        have d2 : w2.cell? ⟨a, 0, none⟩ = some (.int .i64 ea.1) := by rw [cell_of_row w2 a 0 _ _ _ e2]; rfl
        have d3 : w2.cell? ⟨a, 1, none⟩ = some (.int .i64 ea.2) := by rw [cell_of_row w2 a 1 _ _ _ e2]; rfl
        have d2' := frozen_of_row w2 a 0 _ _ e2
        have d3' := frozen_of_row w2 a 1 _ _ e2
        have d4 : w2.cell? ⟨w.heap.size, 0, none⟩ = some (.int .i64 0) := by rw [cell_of_row w2 _ 0 _ _ _ m1]; rfl
        have d5 : w2.cell? ⟨w.heap.size, 1, none⟩ = some (.int .i64 0) := by rw [cell_of_row w2 _ 1 _ _ _ m1]; rfl
        have d4' := frozen_of_row w2 w.heap.size 0 _ _ m1
        have d5' := frozen_of_row w2 w.heap.size 1 _ _ m1
        have d6 : w2.cell? ⟨w.heap.size + 1, 0, none⟩ = some (.int .i64 ea.1) := by rw [cell_of_row w2 _ 0 _ _ _ m2]; rfl
        have d7 : w2.cell? ⟨w.heap.size + 1, 1, none⟩ = some (.int .i64 ea.2) := by rw [cell_of_row w2 _ 1 _ _ _ m2]; rfl
        have z1 : a ≠ w.heap.size := by omega
        have z2 : a ≠ w.heap.size + 1 := by omega
        have z3 : am ≠ w.heap.size := by omega
        have z4 : am ≠ w.heap.size + 1 := by omega
        have AT2 := hide at2
        have K2 := hide hk2
        have HX2 := hide hx2
        clear at2 k2 hk2 hx2 hcon n1 n2 hw1
        go_wp2
        (try simp only [Exit.inBlock, Exit.then])
        refine bodyPost_ret (v := .tuple #[.agg #[.int .i64 ea.1, .int .i64 ea.2], .bool true]) ?_ rfl ?_
        · rw [results_cell_tmp rfl]
          go_simp
        · exact takeA_post HH.out P HLO.out HR.out HNL.out AT2.out K2.out HX2.out (Nat.le_refl _) HLS.out HE.out
      · have HE : Hid (EsB (ea :: A) (eb :: B) es eb) := .inr ⟨B, rfl, by rw [HES.out, List.cons_merge_cons, if_neg (by simpa [leE] using hle)]⟩
        have hw1 : Below w.heap.size w (((w.alloc (.cells #[.int .i64 0, .int .i64 0] 81)).alloc (.cells #[.int .i64 eb.1, .int .i64 eb.2] 81)).drew) := (((Below.refl _ _).alloc (Nat.le_refl _) _).alloc (by simp) _).drew
        generalize hW : ((w.alloc (.cells #[.int .i64 0, .int .i64 0] 81)).alloc (.cells #[.int .i64 eb.1, .int .i64 eb.2] 81)).drew = W at hw1
        have s1 : W.heap.size = w.heap.size + 2 := by rw [← hW]; first | (simp; done) | (simp [World.drew]; done)
        have n1 : W.heap[w.heap.size]? = some (.cells #[.int .i64 0, .int .i64 0] 81 (0, 0)) := by
          rw [← hW]
          exact (Below.heap_alloc _ _ _ (by simp)).trans (heap_alloc_new w _)
        have n2 : W.heap[w.heap.size + 1]? = some (.cells #[.int .i64 eb.1, .int .i64 eb.2] 81 (0, 0)) := by
          rw [← hW]
          show ((w.alloc (.cells #[.int .i64 0, .int .i64 0] 81)).alloc (.cells #[.int .i64 eb.1, .int .i64 eb.2] 81)).heap[w.heap.size + 1]? = _
          have := heap_alloc_new (w.alloc (.cells #[.int .i64 0, .int .i64 0] 81)) (.cells #[.int .i64 eb.1, .int .i64 eb.2] 81)
          simpa using this
        have hcon := HIR.out W _ (GT.At.kept (F := fun _ => False) (Kept.of_below hw1) (fun _ _ h => h) HR.out (fun _ _ h => h)) P.dr (fun k hk => HLO.out k (by simp [GT.blocks, hk]))
        have HWE := hide hW
        clear hW
        go_enter Try.func85, Try.ntmps85
        go_wp2_with (fail)
        go_region
        go_wp2_with (fail)
        rw [HWE.out]
        refine hcon.mono ?_
        rintro e w2 ⟨⟨x2, rfl, hx2⟩, at2, k2⟩
        have hk2 : Kept (fun k => k ∈ r.blocks) w w2 := (Kept.of_below hw1).trans k2
        have e1 : w2.heap[bm]? = some (.cells #[.bool true] 4 (0, 0)) := (hk2.block bm l2 (P.nl bm (by simp)).2).trans HH.out.bmc
        have e2 : w2.heap[b]? = some (.cells #[.int .i64 eb.1, .int .i64 eb.2] 81 (0, 0)) := (hk2.block b l4 (P.nl b (by simp)).2).trans HH.out.bc
        have m1 : w2.heap[w.heap.size]? = some (.cells #[.int .i64 0, .int .i64 0] 81 (0, 0)) := (k2.block _ (by omega) (fun hm => by have := HNR.out _ hm; omega)).trans n1
        have m2 : w2.heap[w.heap.size + 1]? = some (.cells #[.int .i64 eb.1, .int .i64 eb.2] 81 (0, 0)) := (k2.block _ (by omega) (fun hm => by have := HNR.out _ hm; omega)).trans n2
        have d1 := cell_of_one e1
        have d1' := free_of_one e1
        have d2 : w2.cell? ⟨b, 0, none⟩ = some (.int .i64 eb.1) := by rw [cell_of_row w2 b 0 _ _ _ e2]; rfl
        have d3 : w2.cell? ⟨b, 1, none⟩ = some (.int .i64 eb.2) := by rw [cell_of_row w2 b 1 _ _ _ e2]; rfl
        have d2' := frozen_of_row w2 b 0 _ _ e2
        have d3' := frozen_of_row w2 b 1 _ _ e2
        have d4 : w2.cell? ⟨w.heap.size, 0, none⟩ = some (.int .i64 0) := by rw [cell_of_row w2 _ 0 _ _ _ m1]; rfl
        have d5 : w2.cell? ⟨w.heap.size, 1, none⟩ = some (.int .i64 0) := by rw [cell_of_row w2 _ 1 _ _ _ m1]; rfl
        have d4' := frozen_of_row w2 w.heap.size 0 _ _ m1
        have d5' := frozen_of_row w2 w.heap.size 1 _ _ m1
        have d6 : w2.cell? ⟨w.heap.size + 1, 0, none⟩ = some (.int .i64 eb.1) := by rw [cell_of_row w2 _ 0 _ _ _ m2]; rfl
        have d7 : w2.cell? ⟨w.heap.size + 1, 1, none⟩ = some (.int .i64 eb.2) := by rw [cell_of_row w2 _ 1 _ _ _ m2]; rfl
        have z1 : b ≠ w.heap.size := by omega
        have z2 : b ≠ w.heap.size + 1 := by omega
        have z3 : bm ≠ w.heap.size := by omega
        have z4 : bm ≠ w.heap.size + 1 := by omega
        have AT2 := hide at2
        have K2 := hide hk2
        have HX2 := hide hx2
        clear at2 k2 hk2 hx2 hcon n1 n2 hw1
        go_wp2
        (try simp only [Exit.inBlock, Exit.then])
        refine bodyPost_ret (v := .tuple #[.agg #[.int .i64 eb.1, .int .i64 eb.2], .bool true]) ?_ rfl ?_
        · rw [results_cell_tmp rfl]
          go_simp
        · exact takeB_post HH.out P HLO.out HL.out HNR.out AT2.out K2.out HX2.out (Nat.le_refl _) HLS.out HE.out

theorem gives_all (lo : Nat) : ∀ t : GT, GivesAll lo t
  | .leaf g a s => fun w es h hn hlo => give_leaf lo g a s w es h hn hlo
  | .node am bm a b f g l r => give_node lo am bm a b f g l r (gives_all lo l) (gives_all lo r)
end Go.Proofs.Ytljagefcgijmlaa
