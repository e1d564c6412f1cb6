/-
  Nodes as they lie in memory; whole, isWhole, halves, isHigh, joined by their contracts. No condition.
-/
import Derived.Test.YtnfdjbaafiifnaaP02
import Derived.Test.YtnfdjbaafiifnaaP08
namespace Go.Proofs.Ytnfdjbaafiifnaa
open Go.RowKit Go.Lib

/-- All that was there is as it was, but for the blocks of F. -/
structure Kept (F : Nat → Prop) (w w' : World) : Prop where
  os : w'.os = w.os
  tape : w'.tape = w.tape
  output : w'.output = w.output
  size : w.heap.size ≤ w'.heap.size
  block : ∀ k, k < w.heap.size → ¬ F k → w'.heap[k]? = w.heap[k]?
theorem Kept.refl (F : Nat → Prop) (w : World) : Kept F w w := ⟨rfl, rfl, rfl, Nat.le_refl _, fun _ _ _ => rfl⟩
theorem Kept.trans {F : Nat → Prop} {a b c : World} (h : Kept F a b) (k : Kept F b c) : Kept F a c :=
  ⟨k.os.trans h.os, k.tape.trans h.tape, k.output.trans h.output, Nat.le_trans h.size k.size, fun i hi hf => (k.block i (Nat.lt_of_lt_of_le hi h.size) hf).trans (h.block i hi hf)⟩
theorem Kept.mono {F G : Nat → Prop} {a b : World} (h : Kept F a b) (hG : ∀ i, F i → G i) : Kept G a b :=
  ⟨h.os, h.tape, h.output, h.size, fun i hi hf => h.block i hi (fun hg => hf (hG i hg))⟩
theorem Kept.of_below {F : Nat → Prop} {a b : World} (h : Below a.heap.size a b) : Kept F a b :=
  ⟨h.os, h.tape, h.output, h.size, fun i hi _ => h.block i hi⟩
theorem Kept.below {F : Nat → Prop} {B : Nat} {a b : World} (h : Kept F a b) (hB : B ≤ a.heap.size) (hF : ∀ i, F i → B ≤ i) : Below B a b :=
  ⟨h.os, h.tape, h.output, h.size, fun i hi => h.block i (by omega) (fun hf => by have := hF i hf; omega)⟩
theorem Kept.setCell {F : Nat → Prop} {a w : World} (h : Kept F a w) {p : Addr} (hp : F p.block) (u : Value) : Kept F a (w.setCell p u) :=
  h.trans ⟨rfl, rfl, rfl, by simp [World.setCell], fun k _ hf => Below.heap_setCell _ _ _ _ (fun e => hf (e ▸ hp))⟩
theorem Kept.drew {F : Nat → Prop} {a w : World} (h : Kept F a w) : Kept F a w.drew := ⟨h.os, h.tape, h.output, h.size, h.block⟩
theorem Kept.grown {F : Nat → Prop} {a w w' : World} {row : Option Nat} (h : Kept F a w) (hg : w.grownBy w' row) (hr : ∀ k, row = some k → F k) : Kept F a w' :=
  h.trans ⟨hg.os, hg.tape, hg.output, hg.size, fun k hk hf => hg.block k hk (fun e => hf (hr k e.symm))⟩
theorem Kept.cell {F : Nat → Prop} {w w' : World} (h : Kept F w w') {p : Addr} (hp : p.block < w.heap.size) (hf : ¬ F p.block) : w'.cell? p = w.cell? p := World.cell?_of_block (w := w) (h.block p.block hp hf)

/-- A node. -/
def NodeAt (w : World) : Tr → Value → Prop
  | .leaf l, v => ∃ b, v = .pointer (some ⟨b, 0, none⟩) ∧ w.heap[b]? = some (.cells #[.int .i64 l, .pointer none, .pointer none] 98 (0, 0))
  | .fork x y, v => ∃ b p q, v = .pointer (some ⟨b, 0, none⟩) ∧ w.heap[b]? = some (.cells #[.int .i64 0, .pointer (some p), q] 98 (0, 0)) ∧ NodeAt w x (.pointer (some p)) ∧ NodeAt w y q
theorem NodeAt.kept {F : Nat → Prop} {w w' : World} (hk : Kept F w w') (hF : ∀ k, F k → ∃ cs T f, w.heap[k]? = some (.cells cs T f) ∧ T ≠ 98) : ∀ {t : Tr} {v : Value}, NodeAt w t v → NodeAt w' t v
  | .leaf l, v, ⟨b, e, h⟩ => ⟨b, e, (hk.block b (lt_of_block h) (fun hf => by obtain ⟨cs, T, f, h1, h2⟩ := hF b hf; rw [h] at h1; simp at h1; exact h2 h1.2.1.symm)).trans h⟩
  | .fork x y, v, ⟨b, p, q, e, h, hx, hy⟩ => ⟨b, p, q, e, (hk.block b (lt_of_block h) (fun hf => by obtain ⟨cs, T, f, h1, h2⟩ := hF b hf; rw [h] at h1; simp at h1; exact h2 h1.2.1.symm)).trans h, NodeAt.kept hk hF hx, NodeAt.kept hk hF hy⟩
theorem NodeAt.below {w w' : World} (hb : Below w.heap.size w w') {t : Tr} {v : Value} (h : NodeAt w t v) : NodeAt w' t v := NodeAt.kept (F := fun _ => False) (Kept.of_below hb) (fun _ h => h.elim) h
theorem NodeAt.shape {w : World} : ∀ {t : Tr} {v : Value}, NodeAt w t v → ∃ b p q, v = .pointer (some ⟨b, 0, none⟩) ∧ b < w.heap.size ∧ w.heap[b]? = some (.cells #[.int .i64 t.lab, p, q] 98 (0, 0)) ∧ ((t.isLeaf = true ∧ p = .pointer none) ∨ ∃ x y a, t = .fork x y ∧ p = .pointer (some a) ∧ NodeAt w x (.pointer (some a)) ∧ NodeAt w y q)
  | .leaf _, _, ⟨b, e, h⟩ => ⟨b, _, _, e, lt_of_block h, h, .inl ⟨rfl, rfl⟩⟩
  | .fork x y, _, ⟨b, p, q, e, h, hx, hy⟩ => ⟨b, _, q, e, lt_of_block h, h, .inr ⟨x, y, p, rfl, rfl, hx, hy⟩⟩

set_option maxRecDepth 100000 in
theorem whole_any (l : Int) (w : World) : Calls Try.prog 26 #[.int .i64 l] w fun e w' => (∃ v, e = .returned v ∧ NodeAt w' (.leaf l) v) ∧ Below w.heap.size w w' := by
  go_enter Try.func26, Try.ntmps26
  go_wp2
  go_ret
  exact ⟨⟨_, rfl, _, rfl, heap_alloc_new _ _⟩, al (Below.refl _ _) _⟩
set_option maxRecDepth 100000 in
theorem isWhole_any {t : Tr} {v : Value} (w : World) (h : NodeAt w t v) : Calls Try.prog 54 #[v] w fun e w' => e = .returned (.bool t.isLeaf) ∧ w' = w := by
  obtain ⟨b, p, q, rfl, hb, hc, ht⟩ := h.shape
  have c1 : w.cell? ⟨b, 1, none⟩ = some p := by rw [cell_of_row w b 1 _ _ _ hc]; rfl
  rcases ht with ⟨hl, rfl⟩ | ⟨x, y, a, rfl, rfl, _, _⟩
  · rw [hl]
    clear hc h
    go_enter Try.func54, Try.ntmps54
    go_wp2
    go_ret
    exact ⟨rfl, rfl⟩
  · clear hc h
    go_enter Try.func54, Try.ntmps54
    go_wp2
    go_ret
    exact ⟨rfl, rfl⟩
set_option maxRecDepth 100000 in
theorem halves_any {t : Tr} {v : Value} (w : World) (h : NodeAt w t v) : Calls Try.prog 56 #[v] w fun e w' => (∃ p q, e = .returned (.tuple #[p, q]) ∧ NodeAt w' t.lo p ∧ NodeAt w' t.hi q) ∧ Below w.heap.size w w' := by
  have hw := isWhole_any w h
  have H := hide h
  obtain ⟨b, p, q, rfl, hb, hc, ht⟩ := h.shape
  have c1 : w.cell? ⟨b, 1, none⟩ = some p := by rw [cell_of_row w b 1 _ _ _ hc]; rfl
  have c2 : w.cell? ⟨b, 2, none⟩ = some q := by rw [cell_of_row w b 2 _ _ _ hc]; rfl
  rcases ht with ⟨hl, rfl⟩ | ⟨x, y, a, rfl, rfl, hx, hy⟩
  · rw [hl] at hw
    have HL := hide hl
    clear hc h hl
    go_enter Try.func56, Try.ntmps56
    go_wp2_with (go_at_call 54; refine hw.mono ?_; rintro e w1 ⟨rfl, hw1⟩; subst hw1; clear hw)
    go_ret2
    refine ⟨⟨_, _, rfl, ?_⟩, Below.refl _ _⟩
    cases t with
    | leaf l => exact ⟨H.out, H.out⟩
    | fork x y => cases HL.out
  · have HX := hide hx
    have HY := hide hy
    have e1 : (Tr.fork x y).isLeaf = false := rfl
    rw [e1] at hw
    clear hc h hx hy e1
    go_enter Try.func56, Try.ntmps56
    go_wp2_with (go_at_call 54; refine hw.mono ?_; rintro e w1 ⟨rfl, hw1⟩; subst hw1; clear hw)
    go_quiet (fail)
    go_wp2
    go_ret2
    exact ⟨⟨_, _, rfl, HX.out.below (below_drewN _ _ _), HY.out.below (below_drewN _ _ _)⟩, below_drewN _ _ _⟩
set_option maxRecDepth 100000 in
theorem isHigh_any (x : Nat) (w : World) : Calls Try.prog 57 #[.int .u32 x] w fun e w' => e = .returned (.bool (decide (2147483648 ≤ x ∧ x < 4294967296))) ∧ w' = w := by
  have e1 : decide (2147483648 ≤ x ∧ x < 4294967296) = ((x : Int) / 2147483648 == 1) := by
    rw [Bool.eq_iff_iff]
    simp
    omega
  rw [e1]
  clear e1
  go_enter Try.func57, Try.ntmps57
  go_wp2
  go_ret
  exact ⟨rfl, rfl⟩
theorem isWhole_q {t : Tr} {v : Value} {w : World} (h : NodeAt w t v) {bo : Bool} (hb : t.isLeaf = bo) (n : Nat) : Calls Try.prog 54 #[v] (w.drewN n) fun e w'' => e = .returned (.bool bo) ∧ ∃ m, w'' = w.drewN m := by
  subst hb
  exact Calls.quiet_of_same (isWhole_any (w.drewN n) (h.below (below_drewN _ _ _)))
set_option maxRecDepth 100000 in
set_option maxHeartbeats 4000000 in
theorem joined_any {t u : Tr} {v q : Value} (w : World) (h : NodeAt w t v) (h' : NodeAt w u q) : Calls Try.prog 58 #[v, q] w fun e w' => (∃ r, e = .returned r ∧ NodeAt w' (jn t u) r) ∧ Below w.heap.size w w' := by
  have H := hide h
  have H' := hide h'
  have a1 := fun (bo : Bool) (hb : t.isLeaf = bo) n => isWhole_q h hb n
  have a2 := fun (bo : Bool) (hb : u.isLeaf = bo) n => isWhole_q h' hb n
  obtain ⟨b, p1, p2, rfl, hb, hc, ht⟩ := h.shape
  obtain ⟨b', q1, q2, rfl, hb', hc', ht'⟩ := h'.shape
  have c0 : w.cell? ⟨b, 0, none⟩ = some (.int .i64 t.lab) := by rw [cell_of_row w b 0 _ _ _ hc]; rfl
  have c0' : w.cell? ⟨b', 0, none⟩ = some (.int .i64 u.lab) := by rw [cell_of_row w b' 0 _ _ _ hc']; rfl
  have fin : ∀ W : World, Below w.heap.size w W → jn t u = .fork t u → NodeAt (W.alloc (.cells #[.int .i64 0, .pointer (some ⟨b, 0, none⟩), .pointer (some ⟨b', 0, none⟩)] 98)) (jn t u) (.pointer (some ⟨W.heap.size, 0, none⟩)) := fun W x e => by
    rw [e]
    exact ⟨_, _, _, rfl, heap_alloc_new _ _, H.out.below (al x _), H'.out.below (al x _)⟩
  have FIN := hide fin
  have A1 := hide a1
  have A2 := hide a2
  clear h h' hc hc' ht ht' hb hb' fin a1 a2
  cases t with
  | fork x y =>
    have e1 : (Tr.fork x y).isLeaf = false := rfl
    have E1 := hide (show jn (Tr.fork x y) u = .fork (Tr.fork x y) u by simp [jn])
    go_enter Try.func58, Try.ntmps58
    go_wp2
    go_quiet (first | exact A1.out _ e1 _)
    go_wp2
    go_ret
    exact ⟨⟨_, rfl, FIN.out _ (below_drewN _ _ _) E1.out⟩, al (below_drewN _ _ _) _⟩
  | leaf l =>
    have e1 : (Tr.leaf l).isLeaf = true := rfl
    cases u with
    | fork x y =>
      have e2 : (Tr.fork x y).isLeaf = false := rfl
      have E1 := hide (show jn (Tr.leaf l) (.fork x y) = .fork (Tr.leaf l) (.fork x y) by simp [jn])
      go_enter Try.func58, Try.ntmps58
      go_wp2
      go_quiet (first | exact A1.out _ e1 _ | exact A2.out _ e2 _)
      go_wp2
      go_ret
      exact ⟨⟨_, rfl, FIN.out _ (below_drewN _ _ _) E1.out⟩, al (below_drewN _ _ _) _⟩
    | leaf m =>
      have e2 : (Tr.leaf m).isLeaf = true := rfl
      have e3 : (Tr.leaf l).lab = l := rfl
      have e4 : (Tr.leaf m).lab = m := rfl
      rw [e3] at c0
      rw [e4] at c0'
      clear e3 e4
      by_cases h : l = m
      · subst h
        have E1 := hide (show jn (Tr.leaf l) (.leaf l) = .leaf l by simp [jn])
        go_enter Try.func58, Try.ntmps58
        go_wp2
        go_quiet (first | exact A1.out _ e1 _ | exact A2.out _ e2 _)
        go_wp2
        go_ret
        exact ⟨⟨_, rfl, by rw [E1.out]; exact H.out.below (below_drewN _ _ _)⟩, below_drewN _ _ _⟩
      · have E1 := hide (show jn (Tr.leaf l) (.leaf m) = .fork (.leaf l) (.leaf m) by simp [jn, h])
        go_enter Try.func58, Try.ntmps58
        go_wp2
        go_quiet (first | exact A1.out _ e1 _ | exact A2.out _ e2 _)
        go_wp2
        go_ret
        exact ⟨⟨_, rfl, FIN.out _ (below_drewN _ _ _) E1.out⟩, al (below_drewN _ _ _) _⟩
end Go.Proofs.Ytnfdjbaafiifnaa
