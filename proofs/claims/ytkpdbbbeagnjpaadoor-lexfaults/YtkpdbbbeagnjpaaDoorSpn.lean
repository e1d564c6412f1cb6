/-
  strings.SplitN at a point, four at most: how many pieces, and where they lie. Condition: a text is no longer than a process can hold.
-/
import Derived.Test.YtkpdbbbeagnjpaaDoorSplit
namespace Go.Proofs.YtkpdbbbeagnjpaaDoor
open Go.RowKit Go.Lib
theorem splitN_three (l p1 p2 p3 l1 l2 l3 : List UInt8) (hl : l.length ≤ 140737488351232) (h1 : cutL 46 l = some (p1, l1)) (h2 : cutL 46 l1 = some (p2, l2)) (h3 : cutL 46 l2 = some (p3, l3)) (w : World) :
    Calls Tryd.prog 62 #[.string ⟨l.toArray⟩, .string ⟨#[46]⟩, .int .i64 4] w fun e w' => e = .returned (.slice (some ⟨w.heap.size, 0, none⟩) 4 4) ∧ w' = w.alloc (.cells #[.string ⟨p1.toArray⟩, .string ⟨p2.toArray⟩, .string ⟨p3.toArray⟩, .string ⟨l3.toArray⟩] 9) := by
  have h := split_three l p1 p2 p3 l1 l2 l3 hl h1 h2 h3 w
  clear h1 h2 h3
  go_enter Tryd.func62, Tryd.ntmps62
  go_wp2_with (go_at_call 72; refine h.mono ?_; rintro e w2 ⟨rfl, hw2⟩; subst hw2)
  go_ret
  exact ⟨rfl, rfl⟩
theorem split_few (l : List UInt8) (hl : l.length ≤ 140737488351232) (hno : ∀ p1 p2 p3 l1 l2 l3, ¬ (cutL 46 l = some (p1, l1) ∧ cutL 46 l1 = some (p2, l2) ∧ cutL 46 l2 = some (p3, l3))) (w : World) :
    Calls Tryd.prog 72 #[.string ⟨l.toArray⟩, .string ⟨#[46]⟩, .int .i64 0, .int .i64 4] w fun e w' => (∃ m c : Nat, e = .returned (.slice (some ⟨w.heap.size, 0, none⟩) m c) ∧ m < 4) ∧ Below w.heap.size w w' := by
  have fin : ∀ (m c : Nat), m < 4 → Calls Tryd.prog 72 #[.string ⟨l.toArray⟩, .string ⟨#[46]⟩, .int .i64 0, .int .i64 4] w (fun e w' => e = .returned (.slice (some ⟨w.heap.size, 0, none⟩) m c) ∧ Below w.heap.size w w') →
      Calls Tryd.prog 72 #[.string ⟨l.toArray⟩, .string ⟨#[46]⟩, .int .i64 0, .int .i64 4] w fun e w' => (∃ m c : Nat, e = .returned (.slice (some ⟨w.heap.size, 0, none⟩) m c) ∧ m < 4) ∧ Below w.heap.size w w' :=
    fun m c hm h => h.mono fun _ _ h => ⟨⟨m, c, h.1, hm⟩, h.2⟩
  cases e1 : cutL 46 l with
  | none =>
    rcases Nat.lt_or_ge l.length 3 with h | h
    · rcases (show l.length = 0 ∨ l.length = 1 ∨ l.length = 2 by omega) with h | h | h
      · exact fin 1 1 (by decide) (split_1_0 l hl (by omega) w)
      · exact fin 1 2 (by decide) (split_2_0 l hl (by omega) e1 w)
      · exact fin 1 3 (by decide) (split_3_0 l hl (by omega) e1 w)
    · exact fin 1 4 (by decide) (split_4_0 l hl (by omega) e1 w)
  | some x1 =>
    obtain ⟨p1, l1⟩ := x1
    have c1 := cut_len e1
    cases e2 : cutL 46 l1 with
    | none =>
      rcases Nat.lt_or_ge l.length 3 with h | h
      · rcases (show l.length = 1 ∨ l.length = 2 by omega) with h | h
        · exact fin 2 2 (by decide) (split_2_1 l p1 l1 hl (by omega) e1 w)
        · exact fin 2 3 (by decide) (split_3_1 l p1 l1 hl (by omega) e1 e2 w)
      · exact fin 2 4 (by decide) (split_4_1 l p1 l1 hl (by omega) e1 e2 w)
    | some x2 =>
      obtain ⟨p2, l2⟩ := x2
      have c2 := cut_len e2
      cases e3 : cutL 46 l2 with
      | none =>
        rcases Nat.lt_or_ge l.length 3 with h | h
        · exact fin 3 3 (by decide) (split_3_2 l p1 l1 p2 l2 hl (by omega) e1 e2 w)
        · exact fin 3 4 (by decide) (split_4_2 l p1 l1 p2 l2 hl (by omega) e1 e2 e3 w)
      | some x3 => exact absurd ⟨e1, e2, e3⟩ (hno p1 p2 x3.1 l1 l2 x3.2)
theorem splitN_few (l : List UInt8) (hl : l.length ≤ 140737488351232) (hno : ∀ p1 p2 p3 l1 l2 l3, ¬ (cutL 46 l = some (p1, l1) ∧ cutL 46 l1 = some (p2, l2) ∧ cutL 46 l2 = some (p3, l3))) (w : World) :
    Calls Tryd.prog 62 #[.string ⟨l.toArray⟩, .string ⟨#[46]⟩, .int .i64 4] w fun e w' => (∃ m c : Nat, e = .returned (.slice (some ⟨w.heap.size, 0, none⟩) m c) ∧ m < 4) ∧ Below w.heap.size w w' := by
  have h := split_few l hl hno w
  clear hno
  go_enter Tryd.func62, Tryd.ntmps62
  go_wp2_with (go_at_call 72; refine h.mono ?_; rintro e w2 ⟨⟨m, c, rfl, hm⟩, x2⟩; have X2 := hide x2; clear x2)
  go_ret
  exact ⟨⟨m, c, rfl, hm⟩, X2.out⟩
end Go.Proofs.YtkpdbbbeagnjpaaDoor
