/-
  find and put by their contracts. No condition.
-/
import Derived.Test.YtnfdjbaafiifnaaP09
namespace Go.Proofs.Ytnfdjbaafiifnaa
open Go.RowKit Go.Lib

theorem NodeAt.one {w : World} : ∀ {t u : Tr} {v : Value}, NodeAt w t v → NodeAt w u v → t = u
  | .leaf l, .leaf m, _, ⟨b, e, h⟩, ⟨b', e', h'⟩ => by
    subst e; simp at e'; subst e'; rw [h] at h'; simp at h'; rw [h']
  | .leaf l, .fork x y, _, ⟨b, e, h⟩, ⟨b', p, q, e', h', _⟩ => by
    subst e; simp at e'; subst e'; rw [h] at h'; simp at h'
  | .fork x y, .leaf l, _, ⟨b', p, q, e', h', _⟩, ⟨b, e, h⟩ => by
    subst e; simp at e'; subst e'; rw [h] at h'; simp at h'
  | .fork x y, .fork x' y', _, ⟨b, p, q, e, h, hx, hy⟩, ⟨b', p', q', e', h', hx', hy'⟩ => by
    subst e; simp at e'; subst e'; rw [h] at h'; simp at h'
    obtain ⟨h1, h2⟩ := h'
    subst h1 h2
    rw [NodeAt.one hx hx', NodeAt.one hy hy']
open Classical in
noncomputable def depAt (w : World) (v : Value) : Nat := if h : ∃ t, NodeAt w t v then (Classical.choose h).dep else 0
theorem depAt_of {w : World} {t : Tr} {v : Value} (h : NodeAt w t v) : depAt w v = t.dep := by
  have hex : ∃ t, NodeAt w t v := ⟨t, h⟩
  unfold depAt
  rw [dif_pos hex, NodeAt.one h (Classical.choose_spec hex)]
theorem sh_wrap (x : Nat) : IntKind.u32.wrap ((x : Int) * 2) = (sh x : Nat) := by
  simp [IntKind.wrap, IntKind.bits, IntKind.signed, sh]

set_option maxRecDepth 100000 in
set_option maxHeartbeats 1000000 in
theorem find_any {t : Tr} {v : Value} {x : Nat} (w : World) (hx : x < 4294967296) (h : NodeAt w t v) : Calls Try.prog 41 #[v, .int .u32 x] w fun e w' => e = .returned (.int .i64 (t.at x)) ∧ w' = w := by
  have H := hide h
  have HX := hide hx
  clear h hx
  go_enter Try.func41, Try.ntmps41
  go_wp2
  go_loopw [0, 1] (fun n y wr => ∃ (u : Tr) (z : Nat), y = .int .u32 z ∧ Hid (z < 4294967296) ∧ Hid (NodeAt w u n) ∧ Hid (u.at z = t.at x) ∧ wr = w) (fun n _ _ => depAt w n)
  case atStart => exact ⟨t, x, rfl, HX, H, rfl, rfl⟩
  case round =>
    obtain ⟨u, z, rfl, hz, hu, hat, hw⟩ := hrel
    have hw := hw.symm
    subst hw
    rename World => wr
    have hq := isWhole_any wr hu.out
    have hi := isHigh_any z wr
    have HZ := hz
    obtain ⟨b, p, q, rfl, hb, hc, ht⟩ := hu.out.shape
    have c0 : wr.cell? ⟨b, 0, none⟩ = some (.int .i64 u.lab) := by rw [cell_of_row wr b 0 _ _ _ hc]; rfl
    have c1 : wr.cell? ⟨b, 1, none⟩ = some p := by rw [cell_of_row wr b 1 _ _ _ hc]; rfl
    have c2 : wr.cell? ⟨b, 2, none⟩ = some q := by rw [cell_of_row wr b 2 _ _ _ hc]; rfl
    have sw := sh_wrap z
    cases u with
    | leaf l =>
      have e1 : (Tr.leaf l).isLeaf = true := rfl
      have e2 : (Tr.leaf l).lab = l := rfl
      have e3 := hide (show l = t.at x from hat.out)
      rw [e1] at hq
      rw [e2] at c0
      clear hc ht c1 c2 hi e1 e2 hat hb
      go_wp2_with (go_at_call 54; refine hq.mono ?_; rintro e w1 ⟨rfl, hw1⟩; subst hw1; clear hq)
      go_ret
      rw [← e3.out]
      exact ⟨rfl, rfl⟩
    | fork a c =>
      have e1 : (Tr.fork a c).isLeaf = false := rfl
      rw [e1] at hq
      rcases ht with ⟨h1, _⟩ | ⟨x', y', ad, h1, rfl, hx', hy'⟩
      · cases h1
      injection h1 with h2 h3
      subst h2 h3
      have HX' := hide hx'
      have HY' := hide hy'
      have hd := hide (depAt_of hu.out)
      clear hc e1 hx' hy' c0 hb
      by_cases hh : 2147483648 ≤ z
      · have e4 : decide (2147483648 ≤ z ∧ z < 4294967296) = true := decide_eq_true ⟨hh, HZ.out⟩
        have e5 := hide (show c.at (sh z) = t.at x from (if_pos hh).symm.trans hat.out)
        rw [e4] at hi
        clear e4 hat c1
        go_wp2_with (first | (go_at_call 54; refine hq.mono ?_; rintro e w1 ⟨rfl, hw1⟩; subst hw1; clear hq) | (go_at_call 57; refine hi.mono ?_; rintro e w1 ⟨rfl, hw1⟩; subst hw1; clear hi))
        go_roundw
        case rel => exact ⟨c, sh z, rfl, sh_lt z, HY', e5, by trivial⟩
        case measure => rw [hd.out, depAt_of HY'.out]; simp only [Tr.dep]; omega
      · have e4 : decide (2147483648 ≤ z ∧ z < 4294967296) = false := decide_eq_false (fun h => hh h.1)
        have e5 := hide (show a.at (sh z) = t.at x from (if_neg hh).symm.trans hat.out)
        rw [e4] at hi
        clear e4 hat c2
        go_wp2_with (first | (go_at_call 54; refine hq.mono ?_; rintro e w1 ⟨rfl, hw1⟩; subst hw1; clear hq) | (go_at_call 57; refine hi.mono ?_; rintro e w1 ⟨rfl, hw1⟩; subst hw1; clear hi))
        go_roundw
        case rel => exact ⟨a, sh z, rfl, sh_lt z, HX', e5, by trivial⟩
        case measure => rw [hd.out, depAt_of HX'.out]; simp only [Tr.dep]; omega

set_option maxRecDepth 100000 in
set_option maxHeartbeats 1000000 in
theorem put_any (l : Int) : ∀ (k : Nat) (t : Tr) (v : Value) (x : Nat) (w : World), k ≤ 32 → x < 4294967296 → NodeAt w t v →
    Calls Try.prog 36 #[v, .int .u32 x, .int .i64 k, .int .i64 l] w fun e w' => (∃ r, e = .returned r ∧ NodeAt w' (t.put x k l) r) ∧ Below w.heap.size w w'
  | 0, t, v, x, w, _, _, h => by
    clear h
    go_enter Try.func36, Try.ntmps36
    go_wp2_with (go_at_call 26; refine (whole_any l _).mono ?_; rintro e w1 ⟨⟨r, rfl, h1⟩, x1⟩; have H1 := hide h1; have X1 := hide x1; clear h1 x1)
    go_ret
    exact ⟨⟨_, rfl, H1.out⟩, X1.out⟩
  | k + 1, t, v, x, w, hk, hx, h => by
    have ih := fun t v x w => put_any l k t v x w (by omega)
    have hh := halves_any w h
    have HI := fun w => isHigh_any x w
    have sw := sh_wrap x
    have HX := hide hx
    clear h hx
    by_cases hc : 2147483648 ≤ x
    · have e4 : decide (2147483648 ≤ x ∧ x < 4294967296) = true := decide_eq_true ⟨hc, HX.out⟩
      have HE := hide (show t.put x (k + 1) l = jn t.lo (t.hi.put (sh x) k l) by rw [Tr.put, if_pos hc])
      simp only [e4] at HI
      clear e4
      go_enter Try.func36, Try.ntmps36
      go_wp2_with (first
        | (go_at_call 56; refine hh.mono ?_; rintro e w1 ⟨⟨p, q, rfl, h1, h2⟩, x1⟩; have H1 := hide h1; have H2 := hide h2; have X1 := hide x1; clear h1 h2 x1 hh)
        | (go_at_call 57; refine (HI _).mono ?_; rintro e w2 ⟨rfl, hw2⟩; subst hw2)
        | (go_at_call 36; refine (ih t.hi q (sh x) _ (sh_lt _) H2.out).mono ?_; rintro e w3 ⟨⟨r3, rfl, h3⟩, x3⟩; have H3 := hide h3; have L3 := hide (H1.out.below x3); have X3 := hide (bt X1.out x3 (Nat.le_refl _)); clear h3 x3)
        | (go_at_call 58; refine (joined_any _ L3.out H3.out).mono ?_; rintro e w4 ⟨⟨r4, rfl, h4⟩, x4⟩; have H4 := hide h4; have X4 := hide (bt X3.out x4 (Nat.le_refl _)); clear h4 x4))
      go_ret
      exact ⟨⟨_, rfl, by rw [HE.out]; exact H4.out⟩, X4.out⟩
    · have e4 : decide (2147483648 ≤ x ∧ x < 4294967296) = false := decide_eq_false (fun h => hc h.1)
      have HE := hide (show t.put x (k + 1) l = jn (t.lo.put (sh x) k l) t.hi by rw [Tr.put, if_neg hc])
      simp only [e4] at HI
      clear e4
      go_enter Try.func36, Try.ntmps36
      go_wp2_with (first
        | (go_at_call 56; refine hh.mono ?_; rintro e w1 ⟨⟨p, q, rfl, h1, h2⟩, x1⟩; have H1 := hide h1; have H2 := hide h2; have X1 := hide x1; clear h1 h2 x1 hh)
        | (go_at_call 57; refine (HI _).mono ?_; rintro e w2 ⟨rfl, hw2⟩; subst hw2)
        | (go_at_call 36; refine (ih t.lo p (sh x) _ (sh_lt _) H1.out).mono ?_; rintro e w3 ⟨⟨r3, rfl, h3⟩, x3⟩; have H3 := hide h3; have L3 := hide (H2.out.below x3); have X3 := hide (bt X1.out x3 (Nat.le_refl _)); clear h3 x3)
        | (go_at_call 58; refine (joined_any _ H3.out L3.out).mono ?_; rintro e w4 ⟨⟨r4, rfl, h4⟩, x4⟩; have H4 := hide h4; have X4 := hide (bt X3.out x4 (Nat.le_refl _)); clear h4 x4))
      go_ret
      exact ⟨⟨_, rfl, by rw [HE.out]; exact H4.out⟩, X4.out⟩
end Go.Proofs.Ytnfdjbaafiifnaa
/-
  isLabel, New, Put, Find by their contracts; a trie as it lies in memory. No condition.
-/
namespace Go.Proofs.Ytnfdjbaafiifnaa
open Go.RowKit Go.Lib

def Lab (l : Int) : Prop := 0 ≤ l ∧ l ≤ 65535
instance (l : Int) : Decidable (Lab l) := inferInstanceAs (Decidable (_ ∧ _))
/-- A trie. -/
def TrieAt (w : World) (t : Tr) (v : Value) : Prop := ∃ b r, v = .pointer (some ⟨b, 0, none⟩) ∧ w.heap[b]? = some (.cells #[r] 73 (0, 0)) ∧ NodeAt w t r
theorem TrieAt.kept {F : Nat → Prop} {w w' : World} (hk : Kept F w w') (hF : ∀ k, F k → ∃ cs T f, w.heap[k]? = some (.cells cs T f) ∧ T ≠ 98 ∧ T ≠ 73) {t : Tr} {v : Value} (h : TrieAt w t v) : TrieAt w' t v := by
  obtain ⟨b, r, e, h1, h2⟩ := h
  refine ⟨b, r, e, (hk.block b (lt_of_block h1) (fun hf => ?_)).trans h1, NodeAt.kept hk (fun k hf => ?_) h2⟩
  · obtain ⟨cs, T, f, h3, _, h4⟩ := hF b hf
    rw [h1] at h3; simp at h3; exact h4 h3.2.1.symm
  · obtain ⟨cs, T, f, h3, h4, _⟩ := hF k hf
    exact ⟨cs, T, f, h3, h4⟩
theorem TrieAt.below {w w' : World} (hb : Below w.heap.size w w') {t : Tr} {v : Value} (h : TrieAt w t v) : TrieAt w' t v := TrieAt.kept (F := fun _ => False) (Kept.of_below hb) (fun _ h => h.elim) h

set_option maxRecDepth 100000 in
theorem isLabel_any (l : Int) (w : World) : Calls Try.prog 25 #[.int .i64 l] w fun e w' => e = .returned (.bool (decide (Lab l))) ∧ w' = w := by
  by_cases h1 : 0 ≤ l <;> by_cases h2 : l ≤ 65535 <;>
    (first | rw [show decide (Lab l) = true from decide_eq_true ⟨h1, h2⟩] | rw [show decide (Lab l) = false from decide_eq_false (fun h => by unfold Lab at h; omega)]) <;>
    (go_enter Try.func25, Try.ntmps25; go_wp2; go_ret; exact ⟨rfl, rfl⟩)
set_option maxRecDepth 100000 in
theorem new_any (l : Int) (w : World) : Calls Try.prog 9 #[.int .i64 l] w fun e w' => ((Lab l ∧ ∃ v, e = .returned (.tuple #[v, .int .i64 0]) ∧ TrieAt w' (.leaf l) v ∧ (∃ b, v = .pointer (some ⟨b, 0, none⟩) ∧ w.heap.size ≤ b)) ∨ (¬ Lab l ∧ e = .returned (.tuple #[.pointer none, .int .i64 1]))) ∧ Below w.heap.size w w' := by
  have hl := fun w => isLabel_any l w
  have hwh := fun w => Go.Proofs.Ytnfdjbaafiifnaa.whole_any l w
  by_cases h : Lab l
  · simp only [decide_eq_true h] at hl
    go_enter Try.func9, Try.ntmps9
    go_wp2_with (first
      | (go_at_call 25; refine (hl _).mono ?_; rintro e w1 ⟨rfl, hw1⟩; subst hw1)
      | (go_at_call 26; refine (hwh _).mono ?_; rintro e w1 ⟨⟨r, rfl, h1⟩, x1⟩; obtain ⟨b1, _, _, rfl, _⟩ := h1.shape; have H1 := hide h1; have X1 := hide x1; clear h1 x1))
    go_ret2
    exact ⟨.inl ⟨h, _, rfl, ⟨_, _, rfl, heap_alloc_new _ _, H1.out.below (al (Below.refl _ _) _)⟩, _, rfl, X1.out.size⟩, al X1.out _⟩
  · simp only [decide_eq_false h] at hl
    go_enter Try.func9, Try.ntmps9
    go_wp2_with (first
      | (go_at_call 25; refine (hl _).mono ?_; rintro e w1 ⟨rfl, hw1⟩; subst hw1))
    go_ret2
    exact ⟨.inr ⟨h, rfl⟩, Below.refl _ _⟩
set_option maxRecDepth 100000 in
theorem findT_any {t : Tr} {v : Value} (n : Int) (w : World) (h : TrieAt w t v) : Calls Try.prog 20 #[v, .int .i64 n] w fun e w' => ((0 ≤ n ∧ n ≤ 4294967295) → e = .returned (.tuple #[.int .i64 (t.at n.toNat), .int .i64 0])) ∧ (¬ (0 ≤ n ∧ n ≤ 4294967295) → e = .returned (.tuple #[.int .i64 0, .int .i64 1])) ∧ Below w.heap.size w w' := by
  obtain ⟨b, r, rfl, h1, h2⟩ := h
  have c0 : w.cell? ⟨b, 0, none⟩ = some r := by rw [cell_of_row w b 0 _ _ _ h1]; rfl
  have hb := lt_of_block h1
  by_cases h3 : 0 ≤ n <;> by_cases h4 : n ≤ 4294967295
  · obtain ⟨x, rfl⟩ : ∃ x : Nat, n = x := ⟨n.toNat, by omega⟩
    have hx : x < 4294967296 := by omega
    have hf := find_any w hx h2
    have hww : IntKind.u32.wrap (x : Int) = x := by simp [IntKind.wrap, IntKind.bits, IntKind.signed]; omega
    clear h2 h1
    go_enter Try.func20, Try.ntmps20
    go_wp2_with (go_at_call 41; refine hf.mono ?_; rintro e w1 ⟨rfl, hw1⟩; subst hw1)
    go_ret2
    exact ⟨fun _ => rfl, fun h => absurd ⟨h3, h4⟩ h, Below.refl _ _⟩
  all_goals
    clear h2 h1
    go_enter Try.func20, Try.ntmps20
    go_wp2
    go_ret2
    refine ⟨fun h => absurd h (by omega), ?_, Below.refl _ _⟩
    first | rfl | (intro _; rfl)
end Go.Proofs.Ytnfdjbaafiifnaa
