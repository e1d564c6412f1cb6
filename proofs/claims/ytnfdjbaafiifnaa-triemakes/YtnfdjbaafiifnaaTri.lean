/-
  isLabel, New, Put, Find by their contracts; a trie as it lies in memory. No condition.
-/
import Derived.Test.YtnfdjbaafiifnaaPt
namespace Go.Proofs.Ytnfdjbaafiifnaa
open Go.RowKit Go.Lib

def Lab (l : Int) : Prop := 0 ≤ l ∧ l ≤ 65535
instance (l : Int) : Decidable (Lab l) := inferInstanceAs (Decidable (_ ∧ _))
/-- A trie. -/
def TrieAt (w : World) (t : Tr) (v : Value) : Prop := ∃ b r, v = .pointer (some ⟨b, 0, none⟩) ∧ w.heap[b]? = some (.cells #[r] 73 (0, 0)) ∧ NodeAt w t r
theorem TrieAt.kept {F : Nat → Prop} {w w' : World} (hk : Kept F w w') (hF : ∀ k, F k → ∃ cs T f, w.heap[k]? = some (.cells cs T f) ∧ T ≠ 98 ∧ T ≠ 73) {t : Tr} {v : Value} (h : TrieAt w t v) : TrieAt w' t v := by
  obtain ⟨b, r, e, h1, h2⟩ := h
  refine ⟨b, r, e, (hk.block b (lt_of_block h1) (fun hf => ?_)).trans h1, NodeAt.kept hk (fun k hf => ?_) h2⟩
  · obtain ⟨cs, T, f, h3, _, h4⟩ := hF b hf
    rw [h1] at h3; simp at h3; exact h4 h3.2.1.symm
  · obtain ⟨cs, T, f, h3, h4, _⟩ := hF k hf
    exact ⟨cs, T, f, h3, h4⟩
theorem TrieAt.below {w w' : World} (hb : Below w.heap.size w w') {t : Tr} {v : Value} (h : TrieAt w t v) : TrieAt w' t v := TrieAt.kept (F := fun _ => False) (Kept.of_below hb) (fun _ h => h.elim) h

set_option maxRecDepth 100000 in
theorem isLabel_any (l : Int) (w : World) : Calls Try.prog 25 #[.int .i64 l] w fun e w' => e = .returned (.bool (decide (Lab l))) ∧ w' = w := by
  by_cases h1 : 0 ≤ l <;> by_cases h2 : l ≤ 65535 <;>
    (first | rw [show decide (Lab l) = true from decide_eq_true ⟨h1, h2⟩] | rw [show decide (Lab l) = false from decide_eq_false (fun h => by unfold Lab at h; omega)]) <;>
    (go_enter Try.func25, Try.ntmps25; go_wp2; go_ret; exact ⟨rfl, rfl⟩)
set_option maxRecDepth 100000 in
theorem new_any (l : Int) (w : World) : Calls Try.prog 9 #[.int .i64 l] w fun e w' => ((Lab l ∧ ∃ v, e = .returned (.tuple #[v, .int .i64 0]) ∧ TrieAt w' (.leaf l) v ∧ (∃ b, v = .pointer (some ⟨b, 0, none⟩) ∧ w.heap.size ≤ b)) ∨ (¬ Lab l ∧ e = .returned (.tuple #[.pointer none, .int .i64 1]))) ∧ Below w.heap.size w w' := by
  have hl := fun w => isLabel_any l w
  have hwh := fun w => Go.Proofs.Ytnfdjbaafiifnaa.whole_any l w
  by_cases h : Lab l
  · simp only [decide_eq_true h] at hl
    go_enter Try.func9, Try.ntmps9
    go_wp2_with (first
      | (go_at_call 25; refine (hl _).mono ?_; rintro e w1 ⟨rfl, hw1⟩; subst hw1)
      | (go_at_call 26; refine (hwh _).mono ?_; rintro e w1 ⟨⟨r, rfl, h1⟩, x1⟩; obtain ⟨b1, _, _, rfl, _⟩ := h1.shape; have H1 := hide h1; have X1 := hide x1; clear h1 x1))
    go_ret2
    exact ⟨.inl ⟨h, _, rfl, ⟨_, _, rfl, heap_alloc_new _ _, H1.out.below (al (Below.refl _ _) _)⟩, _, rfl, X1.out.size⟩, al X1.out _⟩
  · simp only [decide_eq_false h] at hl
    go_enter Try.func9, Try.ntmps9
    go_wp2_with (first
      | (go_at_call 25; refine (hl _).mono ?_; rintro e w1 ⟨rfl, hw1⟩; subst hw1))
    go_ret2
    exact ⟨.inr ⟨h, rfl⟩, Below.refl _ _⟩
set_option maxRecDepth 100000 in
theorem findT_any {t : Tr} {v : Value} (n : Int) (w : World) (h : TrieAt w t v) : Calls Try.prog 20 #[v, .int .i64 n] w fun e w' => ((0 ≤ n ∧ n ≤ 4294967295) → e = .returned (.tuple #[.int .i64 (t.at n.toNat), .int .i64 0])) ∧ (¬ (0 ≤ n ∧ n ≤ 4294967295) → e = .returned (.tuple #[.int .i64 0, .int .i64 1])) ∧ Below w.heap.size w w' := by
  obtain ⟨b, r, rfl, h1, h2⟩ := h
  have c0 : w.cell? ⟨b, 0, none⟩ = some r := by rw [cell_of_row w b 0 _ _ _ h1]; rfl
  have hb := lt_of_block h1
  by_cases h3 : 0 ≤ n <;> by_cases h4 : n ≤ 4294967295
  · obtain ⟨x, rfl⟩ : ∃ x : Nat, n = x := ⟨n.toNat, by omega⟩
    have hx : x < 4294967296 := by omega
    have hf := find_any w hx h2
    have hww : IntKind.u32.wrap (x : Int) = x := by simp [IntKind.wrap, IntKind.bits, IntKind.signed]; omega
    clear h2 h1
    go_enter Try.func20, Try.ntmps20
    go_wp2_with (go_at_call 41; refine hf.mono ?_; rintro e w1 ⟨rfl, hw1⟩; subst hw1)
    go_ret2
    exact ⟨fun _ => rfl, fun h => absurd ⟨h3, h4⟩ h, Below.refl _ _⟩
  all_goals
    clear h2 h1
    go_enter Try.func20, Try.ntmps20
    go_wp2
    go_ret2
    refine ⟨fun h => absurd h (by omega), ?_, Below.refl _ _⟩
    first | rfl | (intro _; rfl)
end Go.Proofs.Ytnfdjbaafiifnaa
