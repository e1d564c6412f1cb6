/-
  The closure that gives pieces: what it holds in memory, and its steps. No condition beyond what the state says.
-/
import Derived.Test.YtljagefcgijmlaaEnds2
namespace Go.Proofs.Ytljagefcgijmlaa
open Go.RowKit Go.Lib

def bools (l : List Bool) : Array Value := (l.map Value.bool).toArray
/-- What the closure that gives pieces holds. -/
structure PAt (b0 b1 : Nat) (S : List (List Spn)) (bl bm be bi bn ib : Nat) (t : GT) (w : World) (lo : Int) (ins : List Bool) (es : List End) (e : End) : Prop where
  lc : w.heap[bl]? = some (.cells #[.int .i64 lo] 3 (0, 0))
  mc : w.heap[bm]? = some (.cells #[.bool (!es.isEmpty)] 4 (0, 0))
  ec : w.heap[be]? = some (.cells #[.int .i64 e.1, .int .i64 e.2] 81 (0, 0))
  ic : w.heap[bi]? = some (.cells #[.slice (some ⟨ib, 0, none⟩) S.length S.length] 47 (0, 0))
  bc : w.heap[ib]? = some (.cells (bools ins) 4 (0, 0))
  nc : w.heap[bn]? = some (.cells #[t.val] 78 (0, 0))
  at' : t.At b0 w es.tail
  hd : ∀ y ys, es = y :: ys → e = y
  rng : ∀ k ∈ bl :: bm :: be :: bi :: bn :: ib :: t.blocks, b0 ≤ k ∧ k < b1
  ne : (bl :: bm :: be :: bi :: bn :: ib :: t.blocks).Nodup
  le : b1 ≤ w.heap.size
  len : S.length ≤ 2147483648
  inv : PInv S lo ins es

/-- The blocks, apart. -/
structure PNe (bl bm be bi bn ib : Nat) (t : GT) : Prop where
  own : bl ≠ bm ∧ bl ≠ be ∧ bl ≠ bi ∧ bl ≠ bn ∧ bl ≠ ib ∧ bm ≠ be ∧ bm ≠ bi ∧ bm ≠ bn ∧ bm ≠ ib ∧ be ≠ bi ∧ be ≠ bn ∧ be ≠ ib ∧ bi ≠ bn ∧ bi ≠ ib ∧ bn ≠ ib
  nt : ∀ k, (k = bl ∨ k = bm ∨ k = be ∨ k = bi ∨ k = bn ∨ k = ib) → k ∉ t.blocks
  dt : t.blocks.Nodup
theorem pne_of {bl bm be bi bn ib : Nat} {t : GT} (h : (bl :: bm :: be :: bi :: bn :: ib :: t.blocks).Nodup) : PNe bl bm be bi bn ib t := by
  simp only [List.nodup_cons, List.mem_cons, not_or] at h
  obtain ⟨⟨h1, h2, h3, h4, h5, h6⟩, ⟨i2, i3, i4, i5, i6⟩, ⟨j3, j4, j5, j6⟩, ⟨m4, m5, m6⟩, ⟨n5, n6⟩, o6, p⟩ := h
  refine ⟨⟨h1, h2, h3, h4, h5, i2, i3, i4, i5, j3, j4, j5, m4, m5, n5⟩, ?_, p⟩
  rintro k (rfl | rfl | rfl | rfl | rfl | rfl) <;> assumption

theorem bools_get (l : List Bool) (k : Nat) (h : k < l.length) : (bools l)[k]? = some (.bool (l.getD k false)) := by
  simp [bools, List.getD_eq_getElem?_getD, h]
theorem bools_set (l : List Bool) (k : Nat) (b : Bool) : (bools l).set! k (.bool b) = bools (l.set k b) := by
  simp [bools, List.map_set]

section
variable {b0 b1 : Nat} {S : List (List Spn)} {bl bm be bi bn ib : Nat} {t : GT} {w : World} {lo : Int} {ins : List Bool} {es : List End} {e : End}
/-- The blocks that a call may turn. -/
def Fp (b0 b1 : Nat) (k : Nat) : Prop := b0 ≤ k ∧ k < b1
theorem PAt.rng' (h : PAt b0 b1 S bl bm be bi bn ib t w lo ins es e) : (b0 ≤ bl ∧ bl < b1) ∧ (b0 ≤ bm ∧ bm < b1) ∧ (b0 ≤ be ∧ be < b1) ∧ (b0 ≤ bi ∧ bi < b1) ∧ (b0 ≤ bn ∧ bn < b1) ∧ (b0 ≤ ib ∧ ib < b1) ∧ ∀ k ∈ t.blocks, b0 ≤ k ∧ k < b1 :=
  ⟨h.rng _ (by simp), h.rng _ (by simp), h.rng _ (by simp), h.rng _ (by simp), h.rng _ (by simp), h.rng _ (by simp), fun k hk => h.rng k (by simp [hk])⟩
/-- What is outside keeps it. -/
theorem PAt.kept {F : Nat → Prop} {w' : World} (h : PAt b0 b1 S bl bm be bi bn ib t w lo ins es e) (hk : Kept F w w') (hF : ∀ k, k < b1 → ¬ F k) : PAt b0 b1 S bl bm be bi bn ib t w' lo ins es e := by
  obtain ⟨r1, r2, r3, r4, r5, r6, r7⟩ := h.rng'
  exact ⟨(hk.block bl (lt_of_block h.lc) (hF _ r1.2)).trans h.lc, (hk.block bm (lt_of_block h.mc) (hF _ r2.2)).trans h.mc, (hk.block be (lt_of_block h.ec) (hF _ r3.2)).trans h.ec, (hk.block bi (lt_of_block h.ic) (hF _ r4.2)).trans h.ic, (hk.block ib (lt_of_block h.bc) (hF _ r6.2)).trans h.bc, (hk.block bn (lt_of_block h.nc) (hF _ r5.2)).trans h.nc,
    GT.At.kept hk (fun k hk' => hF k (by omega)) h.at' (fun k hk' => hF k (r7 k hk').2), h.hd, h.rng, h.ne, Nat.le_trans h.le hk.size, h.len, h.inv⟩
/-- An end at lo: its set changes, the next one is asked for. -/
theorem PAt.turn {y : End} {ys : List End} {w1 w2 : World} {x : End} (h : PAt b0 b1 S bl bm be bi bn ib t w lo ins (y :: ys) y) (hy : y.1 = lo)
    (h1 : Kept (fun k => k = ib) w w1) (hb : w1.heap[ib]? = some (.cells (bools (ins.set y.2 (!(ins.getD y.2 false)))) 4 (0, 0)))
    (h2 : Kept (fun k => k ∈ t.blocks) w1 w2) (hat : t.At b0 w2 ys.tail) (hx : ∀ z zs, ys = z :: zs → x = z) :
    PAt b0 b1 S bl bm be bi bn ib t (((w2.setCell ⟨be, 0, none⟩ (.int .i64 x.1)).setCell ⟨be, 1, none⟩ (.int .i64 x.2)).setCell ⟨bm, 0, none⟩ (.bool (!ys.isEmpty))) lo (ins.set y.2 (!(ins.getD y.2 false))) ys x ∧
    Kept (Fp b0 b1) w (((w2.setCell ⟨be, 0, none⟩ (.int .i64 x.1)).setCell ⟨be, 1, none⟩ (.int .i64 x.2)).setCell ⟨bm, 0, none⟩ (.bool (!ys.isEmpty))) := by
  obtain ⟨r1, r2, r3, r4, r5, r6, r7⟩ := h.rng'
  have P := pne_of h.ne
  obtain ⟨p1, p2, p3, p4, p5, p6, p7, p8, p9, p10, p11, p12, p13, p14, p15⟩ := P.own
  have g : ∀ k, (k = bl ∨ k = bm ∨ k = be ∨ k = bi ∨ k = bn) → k < w.heap.size → w2.heap[k]? = w.heap[k]? := fun k hk hlt => by
    refine (h2.block k (Nat.lt_of_lt_of_le hlt h1.size) (P.nt k (by rcases hk with h | h | h | h | h <;> simp [h]))).trans (h1.block k hlt ?_)
    rcases hk with rfl | rfl | rfl | rfl | rfl
    · exact p5
    · exact p9
    · exact p12
    · exact p14
    · exact p15
  have gb : w2.heap[ib]? = some (.cells (bools (ins.set y.2 (!(ins.getD y.2 false)))) 4 (0, 0)) := (h2.block ib (lt_of_block hb) (P.nt ib (by simp))).trans hb
  have k3 : Kept (fun k => k = be ∨ k = bm) w2 (((w2.setCell ⟨be, 0, none⟩ (.int .i64 x.1)).setCell ⟨be, 1, none⟩ (.int .i64 x.2)).setCell ⟨bm, 0, none⟩ (.bool (!ys.isEmpty))) :=
    (((Kept.refl (fun k => k = be ∨ k = bm) w2).setCell (p := ⟨be, 0, none⟩) (.inl rfl) _).setCell (p := ⟨be, 1, none⟩) (.inl rfl) _).setCell (p := ⟨bm, 0, none⟩) (.inr rfl) _
  have l1 := lt_of_block h.lc
  have l2 := lt_of_block h.mc
  have l3 := lt_of_block h.ec
  have l4 := lt_of_block h.ic
  have l5 := lt_of_block h.nc
  have s2 : w.heap.size ≤ w2.heap.size := Nat.le_trans h1.size h2.size
  refine ⟨⟨?_, ?_, ?_, ?_, ?_, ?_, ?_, hx, h.rng, h.ne, ?_, h.len, h.inv.turn hy⟩, ?_⟩
  · exact (k3.block bl (by omega) (by omega)).trans ((g bl (by simp) l1).trans h.lc)
  · refine (block_setCell (cs := #[.bool true]) ?_ 0 _).trans rfl
    rw [Below.heap_setCell _ _ _ _ p6, Below.heap_setCell _ _ _ _ p6]
    exact (g bm (by simp) l2).trans h.mc
  · rw [Below.heap_setCell _ _ _ _ (fun q => p6 q.symm)]
    exact (block_setCell (block_setCell ((g be (by simp) l3).trans h.ec) 0 _) 1 _).trans rfl
  · exact (k3.block bi (by omega) (by omega)).trans ((g bi (by simp) l4).trans h.ic)
  · exact (k3.block ib (lt_of_block gb) (by omega)).trans gb
  · exact (k3.block bn (by omega) (by omega)).trans ((g bn (by simp) l5).trans h.nc)
  · refine GT.At.kept k3 (fun k hk => by omega) hat (fun k hk => ?_)
    rintro (rfl | rfl)
    · exact P.nt k (by simp) hk
    · exact P.nt k (by simp) hk
  · have := k3.size; have := h.le; omega
  · refine ((h1.mono (fun i hi => ?_)).trans (h2.mono (fun i hi => r7 i hi))).trans (k3.mono (fun i hi => ?_))
    · subst hi; exact r6
    · rcases hi with rfl | rfl
      · exact r3
      · exact r2
/-- The piece is given: lo moves on. -/
theorem PAt.move {hi : Int} (h : PAt b0 b1 S bl bm be bi bn ib t w lo ins es e) (hinv : PInv S (hi + 1) ins es) :
    PAt b0 b1 S bl bm be bi bn ib t (w.setCell ⟨bl, 0, none⟩ (.int .i64 (hi + 1))) (hi + 1) ins es e ∧ Kept (Fp b0 b1) w (w.setCell ⟨bl, 0, none⟩ (.int .i64 (hi + 1))) := by
  obtain ⟨r1, r2, r3, r4, r5, r6, r7⟩ := h.rng'
  have P := pne_of h.ne
  obtain ⟨p1, p2, p3, p4, p5, p6, p7, p8, p9, p10, p11, p12, p13, p14, p15⟩ := P.own
  have k3 : Kept (fun k => k = bl) w (w.setCell ⟨bl, 0, none⟩ (.int .i64 (hi + 1))) := (Kept.refl (fun k => k = bl) w).setCell (p := ⟨bl, 0, none⟩) rfl _
  refine ⟨⟨one_setCell h.lc, ?_, ?_, ?_, ?_, ?_, ?_, h.hd, h.rng, h.ne, ?_, h.len, hinv⟩, k3.mono (fun i hi => by subst hi; exact r1)⟩
  · exact (k3.block bm (lt_of_block h.mc) (by omega)).trans h.mc
  · exact (k3.block be (lt_of_block h.ec) (by omega)).trans h.ec
  · exact (k3.block bi (lt_of_block h.ic) (by omega)).trans h.ic
  · exact (k3.block ib (lt_of_block h.bc) (by omega)).trans h.bc
  · exact (k3.block bn (lt_of_block h.nc) (by omega)).trans h.nc
  · refine GT.At.kept k3 (fun k hk => by omega) h.at' (fun k hk => ?_)
    rintro rfl
    exact P.nt k (by simp) hk
  · have := k3.size; have := h.le; omega
end

theorem exists_least (p : Nat → Prop) (h : ∃ n, p n) : ∃ n, p n ∧ ∀ m, p m → n ≤ m := by
  obtain ⟨n, hn⟩ := h
  induction n using Nat.strongRecOn with
  | _ n ih =>
    by_cases hx : ∃ m, m < n ∧ p m
    · obtain ⟨m, hm, hp⟩ := hx
      exact ih m hm hp
    · exact ⟨n, hn, fun m hm => Nat.le_of_not_lt fun hlt => hx ⟨m, hlt, hm⟩⟩
open Classical in
noncomputable def least (p : Nat → Prop) : Nat := if h : ∃ n, p n then Classical.choose (exists_least p h) else 0
theorem least_spec {p : Nat → Prop} (h : ∃ n, p n) : p (least p) ∧ ∀ m, p m → least p ≤ m := by
  unfold least
  rw [dif_pos h]
  exact Classical.choose_spec (exists_least p h)
/-- How many ends are left, at the least, by what lies in memory. -/
noncomputable def left (b0 b1 : Nat) (S : List (List Spn)) (bl bm be bi bn ib : Nat) (t : GT) (lo : Int) (w : World) : Nat :=
  least fun n => ∃ ins es e, PAt b0 b1 S bl bm be bi bn ib t w lo ins es e ∧ es.length = n
end Go.Proofs.Ytljagefcgijmlaa
