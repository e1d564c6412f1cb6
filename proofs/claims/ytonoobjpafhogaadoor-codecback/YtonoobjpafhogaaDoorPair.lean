/-
  A codec's Writer and the document's Writer side by side: writes keeps them alike, written says that they are. Conditions: the numbers are ints; all bytes together are at most 2^47; the cell of errors.errorType holds the handle of 'error'.
-/
import Derived.Test.YtonoobjpafhogaaDoorRefB
import Derived.Test.YtonoobjpafhogaaDoorScript
namespace Go.Proofs.YtonoobjpafhogaaDoor
open Go.RowKit

theorem Kept.cell {F : Nat → Prop} {w w' : World} (h : Kept F w w') {p : Addr} (hp : p.block < w.heap.size) (hF : ¬ F p.block) : w'.cell? p = w.cell? p := World.cell?_of_block (w := w) (h.block p.block hp hF)

/-- The two Writers say the same; they hold at most L bytes; their blocks are apart, and among those of H. -/
structure Pair (H : Nat → Prop) (w : World) (b c most L : Nat) : Prop where
  room : most ≤ 9223372036854775807
  ex : ∃ (E : Int) (S S' : List UInt8) (F G : Nat → Prop), WAt 73 F w b most (errOf E) S ∧ WAt 75 G w c most (.int .i64 E) S' ∧ (E = 0 → S = S') ∧ S.length ≤ L ∧ S'.length ≤ L ∧
    (∀ k, F k → ¬ G k) ∧ (∀ k, F k → H k ∧ k < w.heap.size) ∧ (∀ k, G k → H k ∧ k < w.heap.size)

theorem Pair.kept {H J : Nat → Prop} {w w' : World} {b c most L : Nat} (h : Pair H w b c most L) (hk : Kept J w w') (hJ : ∀ k, H k → ¬ J k) : Pair H w' b c most L := by
  obtain ⟨hr, E, S, S', F, G, h1, h2, h3, h4, h5, h6, h7, h8⟩ := h
  exact ⟨hr, E, S, S', F, G, h1.kept hk (fun k hk => hJ k (h7 k hk).1), h2.kept hk (fun k hk => hJ k (h8 k hk).1), h3, h4, h5, h6,
    fun k hf => ⟨(h7 k hf).1, Nat.lt_of_lt_of_le (h7 k hf).2 hk.size⟩, fun k hf => ⟨(h8 k hf).1, Nat.lt_of_lt_of_le (h8 k hf).2 hk.size⟩⟩
theorem Pair.mono {H J : Nat → Prop} {w : World} {b c most L L' : Nat} (h : Pair H w b c most L) (hJ : ∀ k, H k → k < w.heap.size → J k) (hL : L ≤ L') : Pair J w b c most L' := by
  obtain ⟨hr, E, S, S', F, G, h1, h2, h3, h4, h5, h6, h7, h8⟩ := h
  exact ⟨hr, E, S, S', F, G, h1, h2, h3, by omega, by omega, h6, fun k hf => ⟨hJ k (h7 k hf).1 (h7 k hf).2, (h7 k hf).2⟩, fun k hf => ⟨hJ k (h8 k hf).1 (h8 k hf).2, (h8 k hf).2⟩⟩
theorem Pair.below {H : Nat → Prop} {w w' : World} {b c most L : Nat} (h : Pair H w b c most L) (hb : Below w.heap.size w w') : Pair H w' b c most L :=
  h.kept (Kept.of_below (F := fun _ => False) hb) (fun _ _ h => h)

theorem putP_refP (most : Nat) (E c : Int) (S S' s : List UInt8) (h : E = 0 → S = S') :
    (putP most E S s c).1 = (refP most E S' s c).1 ∧ ((putP most E S s c).1 = 0 → (putP most E S s c).2 = (refP most E S' s c).2) ∧ (putP most E S s c).2.length ≤ S.length + s.length ∧ (refP most E S' s c).2.length ≤ S'.length + s.length := by
  unfold putP refP
  by_cases hE : E = 0
  · obtain rfl := h hE
    subst hE
    by_cases hc : c = 0
    · subst hc
      by_cases hl : most < S.length + s.length
      · simp [hl]
      · simp [hl]
    · simp [hc]
  · simp [hE]

/-- One call of both, put together. -/
theorem pair_step {H F G : Nat → Prop} {w wa wb wc : World} {b c most L : Nat} {E : Int} {S S' s : List UInt8} {cd : Int}
    (hr : most ≤ 9223372036854775807) (hE : E = 0 → S = S') (hL : S.length ≤ L) (hL' : S'.length ≤ L)
    (hd : ∀ k, F k → ¬ G k) (hF : ∀ k, F k → H k ∧ k < w.heap.size) (hG : ∀ k, G k → H k ∧ k < w.heap.size)
    (ha : Below w.heap.size w wa)
    (h1 : WAt 73 (fun k => F k ∨ wa.heap.size ≤ k) wb b most (errOf (putP most E S s cd).1) (putP most E S s cd).2) (k1 : Kept F wa wb)
    (h2 : WAt 75 (fun k => G k ∨ wb.heap.size ≤ k) wc c most (.int .i64 (refP most E S' s cd).1) (refP most E S' s cd).2) (k2 : Kept G wb wc) :
    Pair (fun k => H k ∨ w.heap.size ≤ k) wc b c most (L + s.length) ∧ Kept H w wc := by
  obtain ⟨e1, e2, e3, e4⟩ := putP_refP most E cd S S' s hE
  have sz1 := ha.size
  have sz2 := k1.size
  have h1' : WAt 73 (fun k => (F k ∨ wa.heap.size ≤ k) ∧ k < wb.heap.size) wb b most (errOf (putP most E S s cd).1) (putP most E S s cd).2 := h1.mono (fun k a b => ⟨a, b⟩)
  have h2' : WAt 75 (fun k => (G k ∨ wb.heap.size ≤ k) ∧ k < wc.heap.size) wc c most (.int .i64 (refP most E S' s cd).1) (refP most E S' s cd).2 := h2.mono (fun k a b => ⟨a, b⟩)
  have h1'' := h1'.kept k2 (fun k hk hg => by
    rcases hk.1 with h | h
    · exact hd k h hg
    · have := (hG k hg).2; omega)
  rw [← e1] at h2'
  refine ⟨⟨hr, _, _, _, _, _, h1'', h2', e2, by omega, by omega, ?_, ?_, ?_⟩, ?_⟩
  · rintro k ⟨hk1, hk2⟩ ⟨hg1, hg2⟩
    rcases hk1 with h | h
    · rcases hg1 with g | g
      · exact hd k h g
      · have := (hF k h).2; omega
    · rcases hg1 with g | g
      · have := (hG k g).2; omega
      · omega
  · rintro k ⟨hk1, hk2⟩
    refine ⟨?_, Nat.lt_of_lt_of_le hk2 k2.size⟩
    rcases hk1 with h | h
    · exact .inl (hF k h).1
    · exact .inr (by omega)
  · rintro k ⟨hk1, hk2⟩
    refine ⟨?_, hk2⟩
    rcases hk1 with h | h
    · exact .inl (hG k h).1
    · exact .inr (by omega)
  · refine (Kept.of_below ha).trans_new (G := fun k => F k ∨ G k) ?_ (fun i _ hi => by rcases hi with h | h; exact (hF i h).1; exact (hG i h).1)
    exact (k1.mono (fun i h => .inl h)).trans (k2.mono (fun i h => .inr h))

set_option maxRecDepth 100000 in
set_option maxHeartbeats 2000000 in
theorem writes_any (H : Nat → Prop) (w : World) (b c most L : Nat) (o : OpD) (ho : OpOk o) (hL : L + o.s.size + 100 ≤ 140737488355328) (h : Pair H w b c most L) :
    Calls Tryd.prog 16 #[.pointer (some ⟨b, 0, none⟩), .pointer (some ⟨c, 0, none⟩), .agg #[.int .i64 o.kind, .int .i64 o.on, .int .i64 o.size, .int .i64 o.n, .string o.s]] w fun e w' =>
      e = .returned (.tuple #[]) ∧ Pair (fun k => H k ∨ w.heap.size ≤ k) w' b c most (L + o.s.size + 8) ∧ Kept H w w' := by
  obtain ⟨kind, on, size, n, s⟩ := o
  obtain ⟨o1, o2, o3, o4, o5⟩ := ho
  simp only at o1 o2 o3 o4 o5 hL ⊢
  have HP := hide h
  obtain ⟨hr, E, S, S', F, G, h1, h2, hE, hl1, hl2, hd, hF, hG⟩ := h
  have H1 := hide h1; have H2 := hide h2; have HE := hide hE; have HD := hide hd; have HF := hide hF; have HG' := hide hG
  clear h1 h2 hE hd hF hG
  have hSz : S.length + s.size + 100 ≤ 140737488355328 := by omega
  have hSz' : S'.length + s.size + 100 ≤ 140737488355328 := by omega
  by_cases k1 : kind = 1
  · subst k1
    go_enter Tryd.func16, Tryd.ntmps16
    go_wp2_with fail
    refine (wNum_any F _ b most E S size n o4.2 hr (by omega) (H1.out.below (Below.alloc (Below.refl _ _) (Nat.le_refl _) _))).mono ?_
    rintro e w1 ⟨rfl, x1, y1⟩
    have X1 := hide x1; have Y1 := hide y1
    clear x1 y1
    have hF0 : Hid (¬ F w.heap.size) := fun h => Nat.lt_irrefl _ (HF.out _ h).2
    have hx2 : w1.cell? ⟨w.heap.size, 2, none⟩ = some (.int .i64 size) := by rw [Y1.out.cell (p := ⟨w.heap.size, 2, none⟩) (by simp) hF0.out]; simp
    have hx3 : w1.cell? ⟨w.heap.size, 3, none⟩ = some (.int .i64 n) := by rw [Y1.out.cell (p := ⟨w.heap.size, 3, none⟩) (by simp) hF0.out]; simp
    go_wp2_with fail
    refine (refNum_any G _ c most E S' size n o4.2 hr (by omega) ((H2.out.below (Below.alloc (Below.refl _ _) (Nat.le_refl _) _)).kept Y1.out (fun k hg hf => HD.out k hf hg))).mono ?_
    rintro e w2 ⟨rfl, x2, y2⟩
    have R := hide (pair_step hr HE.out hl1 hl2 HD.out HF.out HG'.out (Below.alloc (Below.refl _ _) (Nat.le_refl _) _) X1.out Y1.out x2 y2)
    clear x2 y2
    go_wp2
    go_end0
    exact ⟨rfl, R.out.1.mono (fun k h _ => h) (by have := numS_length size n; omega), R.out.2⟩
  have b1 : (kind == 1) = false := by simpa using k1
  by_cases k2 : kind = 2
  · subst k2
    have hts : (textS s.data.toList).length ≤ s.size + 2 := by have := textS_length s.data.toList; simpa using this
    go_enter Tryd.func16, Tryd.ntmps16
    go_wp2_with fail
    refine (wText_any F _ b most E S s hr (by omega) (H1.out.below (Below.alloc (Below.refl _ _) (Nat.le_refl _) _))).mono ?_
    rintro e w1 ⟨rfl, x1, y1⟩
    have X1 := hide x1; have Y1 := hide y1
    clear x1 y1
    have hF0 : Hid (¬ F w.heap.size) := fun h => Nat.lt_irrefl _ (HF.out _ h).2
    have hx4 : w1.cell? ⟨w.heap.size, 4, none⟩ = some (.string s) := by rw [Y1.out.cell (p := ⟨w.heap.size, 4, none⟩) (by simp) hF0.out]; simp
    go_wp2_with fail
    refine (refText_any G _ c most E S' s hr (by omega) ((H2.out.below (Below.alloc (Below.refl _ _) (Nat.le_refl _) _)).kept Y1.out (fun k hg hf => HD.out k hf hg))).mono ?_
    rintro e w2 ⟨rfl, x2, y2⟩
    have R := hide (pair_step hr HE.out hl1 hl2 HD.out HF.out HG'.out (Below.alloc (Below.refl _ _) (Nat.le_refl _) _) X1.out Y1.out x2 y2)
    clear x2 y2
    go_wp2
    go_end0
    exact ⟨rfl, R.out.1.mono (fun k h _ => h) (by omega), R.out.2⟩
  have b2 : (kind == 2) = false := by simpa using k2
  by_cases k3 : kind = 3
  · subst k3
    have hts : s.data.toList.length = s.size := by simp
    go_enter Tryd.func16, Tryd.ntmps16
    go_wp2_with fail
    refine (wRaw_any F _ b most E S s hr (by omega) (H1.out.below (Below.alloc (Below.refl _ _) (Nat.le_refl _) _))).mono ?_
    rintro e w1 ⟨rfl, x1, y1⟩
    have X1 := hide x1; have Y1 := hide y1
    clear x1 y1
    have hF0 : Hid (¬ F w.heap.size) := fun h => Nat.lt_irrefl _ (HF.out _ h).2
    have hx4 : w1.cell? ⟨w.heap.size, 4, none⟩ = some (.string s) := by rw [Y1.out.cell (p := ⟨w.heap.size, 4, none⟩) (by simp) hF0.out]; simp
    go_wp2_with fail
    refine (refRaw_any G _ c most E S' s hr (by omega) ((H2.out.below (Below.alloc (Below.refl _ _) (Nat.le_refl _) _)).kept Y1.out (fun k hg hf => HD.out k hf hg))).mono ?_
    rintro e w2 ⟨rfl, x2, y2⟩
    have R := hide (pair_step hr HE.out hl1 hl2 HD.out HF.out HG'.out (Below.alloc (Below.refl _ _) (Nat.le_refl _) _) X1.out Y1.out x2 y2)
    clear x2 y2
    go_wp2
    go_end0
    exact ⟨rfl, R.out.1.mono (fun k h _ => h) (by omega), R.out.2⟩
  have b3 : (kind == 3) = false := by simpa using k3
  have R : Hid (Pair (fun k => H k ∨ w.heap.size ≤ k) (w.alloc (.cells #[.int .i64 kind, .int .i64 on, .int .i64 size, .int .i64 n, .string s] 36)) b c most (L + s.size + 8) ∧ Kept H w (w.alloc (.cells #[.int .i64 kind, .int .i64 on, .int .i64 size, .int .i64 n, .string s] 36))) :=
    ⟨(HP.out.below (Below.alloc (Below.refl _ _) (Nat.le_refl _) _)).mono (fun k h _ => .inl h) (by omega), Kept.of_below (Below.alloc (Below.refl _ _) (Nat.le_refl _) _)⟩
  clear k1 k2 k3
  go_enter Tryd.func16, Tryd.ntmps16
  go_wp2
  go_end0
  exact ⟨rfl, R.out⟩

set_option maxRecDepth 100000 in
theorem written_any (H : Nat → Prop) (w : World) (b c most L : Nat) (hg : HG w) (h : Pair H w b c most L) :
    Calls Tryd.prog 17 #[.pointer (some ⟨b, 0, none⟩), .pointer (some ⟨c, 0, none⟩)] w fun e w' => e = .returned (.bool true) ∧ Below w.heap.size w w' := by
  obtain ⟨hr, E, S, S', F, G, h1, h2, hE, hl1, hl2, hd, hF, hG⟩ := h
  have hS : doneS E S = doneS E S' := by
    unfold doneS
    by_cases e : E = 0
    · rw [if_pos e, if_pos e, hE e]
    · rw [if_neg e, if_neg e]
  have H1 := hide h1; have H2 := hide h2; have HS := hide hS; have HGG := hide hg
  clear h1 h2 hE hd hF hG hS hg
  go_enter Tryd.func17, Tryd.ntmps17
  go_wp2_with fail
  refine (wDone_any F _ b most E S HGG.out H1.out).mono ?_
  rintro e w1 ⟨rfl, x1⟩
  have X1 := hide x1
  clear x1
  rw [HS.out]
  go_wp2_with fail
  refine (refDone_any G _ c most E S' (H2.out.below X1.out)).mono ?_
  rintro e w2 ⟨rfl, x2⟩
  have X2 := hide x2
  clear x2
  go_wp2
  go_ret
  exact ⟨rfl, X1.out.trans (X2.out.mono X1.out.size)⟩
end Go.Proofs.YtonoobjpafhogaaDoor
