/-
  Rows as they lie in memory; halvesOf, what Rows hands to walk, walk, Rows by their contracts. No condition.
-/
import Derived.Test.YtnfdjbaafiifnaaP13
import Derived.Test.YtnfdjbaafiifnaaP10
import Derived.Deep.RegionHeld3
namespace Go.Proofs.Ytnfdjbaafiifnaa
open Go.RowKit Go.Lib

def rwCells (R : List Rw) : List Value := R.flatMap fun r => [.int .i64 (r.1.1 : Nat), .int .i64 (r.1.2 : Nat), .int .i64 r.2]
theorem rwCells_snoc (R : List Rw) (r : Rw) : rwCells (R ++ [r]) = rwCells R ++ [.int .i64 (r.1.1 : Nat), .int .i64 (r.1.2 : Nat), .int .i64 r.2] := by simp [rwCells]
def OwnR (w : World) (base : Nat) (v : Value) (R : List Rw) : Prop := w.ownsRow base 65 3 v R.length (rwCells R)
/-- What is gathered. -/
structure OutS (B ob : Nat) (R : List Rw) (w : World) : Prop where
  le : B ≤ ob
  ex : ∃ v, w.heap[ob]? = some (.cells #[v] 44 (0, 0)) ∧ OwnR w B v R
theorem Try.info65 : (Try.prog.info? 65).map (fun i => (i.zero, i.size, i.bytes)) = some (some (.agg #[.int .i64 0, .int .i64 0, .int .i64 0]), 3, 24) := by kernel_rfl
theorem info_parts {t : TypeId} {z : Value} {s b : Nat} (h : (Try.prog.info? t).map (fun i => (i.zero, i.size, i.bytes)) = some (some z, s, b)) : ∃ i, Try.prog.info? t = some i ∧ i.zero = some z ∧ i.size = s ∧ i.bytes = b := by
  cases hi : Try.prog.info? t with
  | none => rw [hi] at h; cases h
  | some i => rw [hi] at h; simp at h; exact ⟨i, rfl, h.1, h.2.1, h.2.2⟩

/-- Blocks of other kinds than rows' stay. -/
def KeepT (w w' : World) : Prop := ∀ (k : Nat) (cs : Array Value) (T : TypeId) (f : Nat × Nat), T ≠ 44 → T ≠ 65 → w.heap[k]? = some (.cells cs T f) → w'.heap[k]? = some (.cells cs T f)
theorem KeepT.trans {a b c : World} (h : KeepT a b) (h' : KeepT b c) : KeepT a c := fun k cs T f h1 h2 h3 => h' k cs T f h1 h2 (h k cs T f h1 h2 h3)
theorem KeepT.below {a b : World} (h : Below a.heap.size a b) : KeepT a b := fun k _ _ _ _ _ h3 => (h.block k (lt_of_block h3)).trans h3
theorem KeepT.kept {F : Nat → Prop} {a b : World} (h : Kept F a b) (hF : ∀ k, F k → ∃ cs T f, a.heap[k]? = some (.cells cs T f) ∧ (T = 44 ∨ T = 65)) : KeepT a b := fun k cs T f h1 h2 h3 => (h.block k (lt_of_block h3) (fun hf => by
  obtain ⟨cs', T', f', h4, h5⟩ := hF k hf
  rw [h3] at h4
  simp at h4
  rcases h5 with h5 | h5
  · exact h1 (h4.2.1.trans h5)
  · exact h2 (h4.2.1.trans h5))).trans h3
set_option maxRecDepth 100000 in
set_option maxHeartbeats 1000000 in
theorem see_any (a k : Nat) (l : Int) (B ob : Nat) (R : List Rw) (w : World) (hs : OutS B ob R w) (hB : B ≤ w.heap.size) (hR : R.length ≤ 4294967296) :
    Calls Try.prog 35 #[.agg #[.int .i64 a, .int .i64 k], .int .i64 l, .pointer (some ⟨ob, 0, none⟩)] w fun e w' => e = .returned (.tuple #[]) ∧ OutS B ob (R ++ [((a, k), l)]) w' ∧ Below B w w' ∧ KeepT w w' := by
  obtain ⟨v, h1, h2⟩ := hs.ex
  have c0 : w.cell? ⟨ob, 0, none⟩ = some v := by rw [cell_of_row w ob 0 _ _ _ h1]; rfl
  have hob : ob < w.heap.size := lt_of_block h1
  obtain ⟨i65, hj, hy0, hy1, hy2⟩ := info_parts Try.info65
  obtain ⟨ao, cap, rfl⟩ : ∃ ao cap, v = .slice ao R.length cap := by
    rcases h2.2 with ⟨rfl, hn⟩ | ⟨g, cap, cur, rfl, _⟩
    · exact ⟨none, 0, by rw [hn]⟩
    · exact ⟨_, cap, rfl⟩
  have H1 := hide h1
  have H2 := hide h2
  have HS := hide hs
  clear h1 h2 hs
  have HX : Hid (Below w.heap.size w ((w.alloc (.cells #[.int .i64 a, .int .i64 k] 42)).alloc (.cells #[.int .i64 a, .int .i64 k, .int .i64 l] 65))) := al (al (Below.refl _ _) _) _
  have HN : Hid (∀ j u, ([.int .i64 a, .int .i64 k, .int .i64 l] : List Value)[j]? = some u → ((w.alloc (.cells #[.int .i64 a, .int .i64 k] 42)).alloc (.cells #[.int .i64 a, .int .i64 k, .int .i64 l] 65)).cell? ((⟨w.heap.size + 1, 0, none⟩ : Addr).add j) = some u) := by
    intro j u hu
    match j, hu with
    | 0, hu => simp at hu; subst hu; simp [Addr.add]
    | 1, hu => simp at hu; subst hu; simp [Addr.add]
    | 2, hu => simp at hu; subst hu; simp [Addr.add]
  have HR : Hid (R.length ≤ 4294967296) := hR
  have HB : Hid (B ≤ w.heap.size) := hB
  clear hR hB
  go_enter Try.func35, Try.ntmps35
  go_wp2_with (at_builtin; refine wpList_append_own _ rfl (.tmp 5) (.tmp 9) 44 rfl B 65 i65 (.agg #[.int .i64 0, .int .i64 0, .int .i64 0]) 3 24 Try.underlying44 hj hy0 hy1 hy2 rfl (by decide) _ R.length (rwCells R) rfl (own_below H2.out HX.out) ⟨w.heap.size + 1, 0, none⟩ 1 1 [.int .i64 a, .int .i64 k, .int .i64 l] rfl rfl HN.out (by simp [Value.oneCell']) (by have := HR.out; unfold maxLen; omega) (by have := HR.out; omega) (Nat.le_trans HB.out HX.out.size) ?_; intro v2 w2 h1 h2 _; obtain ⟨a2, cap2, rfl, _⟩ := own_shape h1; have G1 := hide h1; have G2 := hide h2; have hb2 := hide ((h2.block ob (Nat.lt_of_lt_of_le hob HX.out.size) (fun hf => by have q1 := H1.out; obtain ⟨cs, q2⟩ := own_ty H2.out ob hf.symm; rw [q1] at q2; simp at q2)).trans ((HX.out.block ob hob).trans H1.out)); have c2 : w2.cell? ⟨ob, 0, none⟩ = some (.slice ao R.length cap) := (by rw [cell_of_row w2 ob 0 _ _ _ hb2.out]; rfl); have f2 := frozen_of_row w2 ob 0 _ _ hb2.out; clear h1 h2)
  go_end0
  have hk : Kept (fun k => k = ob) w2 (w2.setCell ⟨ob, 0, none⟩ (.slice a2 (R.length + 1) cap2)) := Kept.setCell (F := fun k => k = ob) (Kept.refl _ _) rfl _
  refine ⟨rfl, ⟨HS.out.le, _, by rw [block_setCell hb2.out 0]; rfl, ?_⟩, ?_⟩
  · unfold OwnR
    rw [rwCells_snoc, List.length_append]
    refine own_kept G1.out hk (fun k h3 h4 => ?_)
    subst h4
    obtain ⟨cs, h5⟩ := own_ty G1.out k h3
    rw [hb2.out] at h5
    simp at h5
  · refine ⟨Below.trans (Below.trans (HX.out.mono HB.out) ((kept_of_grown G2.out).below (Nat.le_trans HB.out HX.out.size) (fun k hk => (World.ownsRow.lt H2.out k hk).1))) (hk.below (Nat.le_trans HB.out (Nat.le_trans HX.out.size G2.out.size)) (fun k hk => by rw [hk]; exact HS.out.le)), KeepT.trans (KeepT.below HX.out) (KeepT.trans (KeepT.kept (kept_of_grown G2.out) (fun k hk' => ?_)) (KeepT.kept hk (fun k hk' => ?_)))⟩
    · obtain ⟨cs, h5⟩ := own_ty (own_below H2.out HX.out) k hk'
      exact ⟨cs, 65, _, h5, .inr rfl⟩
    · subst hk'
      exact ⟨_, 44, _, hb2.out, .inl rfl⟩
end Go.Proofs.Ytnfdjbaafiifnaa
