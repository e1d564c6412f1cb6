/-
  Union, Meet, Less and Not by their contracts. Condition: lists of at most 2^32 spans.
-/
import Derived.Test.YtljagefcgijmlaaPick2
namespace Go.Proofs.Ytljagefcgijmlaa
open Go.RowKit Go.Lib

theorem two_list (ins : List Bool) (h : ins.length = 2) : ∃ a b, ins = [a, b] := by
  match ins, h with
  | [a, b], _ => exact ⟨a, b, rfl⟩
theorem one_list (ins : List Bool) (h : ins.length = 1) : ∃ a, ins = [a] := by
  match ins, h with
  | [a], _ => exact ⟨a, rfl⟩
def fOr (l : List Bool) : Bool := l.getD 0 false || l.getD 1 false
def fAnd (l : List Bool) : Bool := l.getD 0 false && l.getD 1 false
def fSub (l : List Bool) : Bool := l.getD 0 false && !l.getD 1 false
def fNot (l : List Bool) : Bool := !l.getD 0 false

theorem wants48 : Wants 48 fOr 2 := by
  refine ⟨enters_of Try.func48 (by kernel_rfl) rfl, fun w ib ins hl hb => ?_⟩
  obtain ⟨a, b, rfl⟩ := two_list ins hl
  have c0 : w.cell? ⟨ib, 0, none⟩ = some (.bool a) := by rw [cell_of_row w _ 0 _ _ _ hb]; rfl
  have c1 : w.cell? ⟨ib, 1, none⟩ = some (.bool b) := by rw [cell_of_row w _ 1 _ _ _ hb]; rfl
  clear hb
  cases a <;> cases b <;> (simp only [fOr, List.getD_cons_zero, List.getD_cons_succ, Bool.or_false, Bool.or_true, Bool.or_self]; go_enter Try.func48, Try.ntmps48; go_wp2; go_ret; exact ⟨rfl, rfl⟩)

theorem wants49 : Wants 49 fAnd 2 := by
  refine ⟨enters_of Try.func49 (by kernel_rfl) rfl, fun w ib ins hl hb => ?_⟩
  obtain ⟨a, b, rfl⟩ := two_list ins hl
  have c0 : w.cell? ⟨ib, 0, none⟩ = some (.bool a) := by rw [cell_of_row w _ 0 _ _ _ hb]; rfl
  have c1 : w.cell? ⟨ib, 1, none⟩ = some (.bool b) := by rw [cell_of_row w _ 1 _ _ _ hb]; rfl
  clear hb
  cases a <;> cases b <;> (simp only [fAnd, List.getD_cons_zero, List.getD_cons_succ, Bool.and_true, Bool.and_false, Bool.and_self]; go_enter Try.func49, Try.ntmps49; go_wp2; go_ret; exact ⟨rfl, rfl⟩)

theorem wants50 : Wants 50 fSub 2 := by
  refine ⟨enters_of Try.func50 (by kernel_rfl) rfl, fun w ib ins hl hb => ?_⟩
  obtain ⟨a, b, rfl⟩ := two_list ins hl
  have c0 : w.cell? ⟨ib, 0, none⟩ = some (.bool a) := by rw [cell_of_row w _ 0 _ _ _ hb]; rfl
  have c1 : w.cell? ⟨ib, 1, none⟩ = some (.bool b) := by rw [cell_of_row w _ 1 _ _ _ hb]; rfl
  clear hb
  cases a <;> cases b <;> (simp only [fSub, List.getD_cons_zero, List.getD_cons_succ, Bool.and_true, Bool.and_false, Bool.not_true, Bool.not_false, Bool.and_self]; go_enter Try.func50, Try.ntmps50; go_wp2; go_ret; exact ⟨rfl, rfl⟩)

theorem wants51 : Wants 51 fNot 1 := by
  refine ⟨enters_of Try.func51 (by kernel_rfl) rfl, fun w ib ins hl hb => ?_⟩
  obtain ⟨a, rfl⟩ := one_list ins hl
  have c0 : w.cell? ⟨ib, 0, none⟩ = some (.bool a) := by rw [cell_of_row w _ 0 _ _ _ hb]; rfl
  clear hb
  cases a <;> (simp only [fNot, List.getD_cons_zero, Bool.not_true, Bool.not_false]; go_enter Try.func51, Try.ntmps51; go_wp2; go_ret; exact ⟨rfl, rfl⟩)

/-- What a call of two sets, or of one, tells. -/
def Told (f : List Bool → Bool) (S : List (List Spn)) (w : World) (e : Ending) (w' : World) : Prop := Below w.heap.size w w' ∧
  (((∀ L ∈ S, IsSet L) ∧ ∃ v M, e = .returned (.tuple #[v, .int .i64 0]) ∧ OwnS w' w.heap.size v M ∧ Upto f S 4294967296 M) ∨
   ((¬ ∀ L ∈ S, IsSet L) ∧ e = .returned (.tuple #[.slice none 0 0, .int .i64 1])))
theorem Told.grow {f : List Bool → Bool} {S : List (List Spn)} {w w1 : World} {e : Ending} {w' : World} (h : Told f S w1 e w') (hb : Below w.heap.size w w1) : Told f S w e w' := by
  obtain ⟨h1, h2⟩ := h
  refine ⟨hb.trans (h1.mono hb.size), ?_⟩
  rcases h2 with ⟨a, v, M, b, c, d⟩ | h
  · exact .inl ⟨a, v, M, b, c.mono hb.size, d⟩
  · exact .inr h

theorem pair_at {w : World} {a1 a2 : Option Addr} {c1 c2 : Nat} {A B : List Spn} (h1 : SpAt w a1 A) (h2 : SpAt w a2 B) (b1 : ∀ x, a1 = some x → x.block < w.heap.size) (b2 : ∀ x, a2 = some x → x.block < w.heap.size) :
    SsAt (w.alloc (.cells #[.slice a1 A.length c1, .slice a2 B.length c2] 22)).heap.size (w.alloc (.cells #[.slice a1 A.length c1, .slice a2 B.length c2] 22)) (some ⟨w.heap.size, 0, none⟩) [A, B] := by
  have hb : Below w.heap.size w (w.alloc (.cells #[.slice a1 A.length c1, .slice a2 B.length c2] 22)) := (Below.refl _ _).alloc (Nat.le_refl _) _
  have hs : (w.alloc (.cells #[.slice a1 A.length c1, .slice a2 B.length c2] 22)).heap.size = w.heap.size + 1 := by simp
  refine .inr ⟨w.heap.size, 0, rfl, by omega, fun i hi => ?_⟩
  match i, hi with
  | 0, _ => exact ⟨a1, c1, by simp, h1.below hb, fun x hx => by have := b1 x hx; omega⟩
  | 1, _ => exact ⟨a2, c2, by simp, h2.below hb, fun x hx => by have := b2 x hx; omega⟩
theorem one_at {w : World} {a1 : Option Addr} {c1 : Nat} {A : List Spn} (h1 : SpAt w a1 A) (b1 : ∀ x, a1 = some x → x.block < w.heap.size) :
    SsAt (w.alloc (.cells #[.slice a1 A.length c1] 22)).heap.size (w.alloc (.cells #[.slice a1 A.length c1] 22)) (some ⟨w.heap.size, 0, none⟩) [A] := by
  have hb : Below w.heap.size w (w.alloc (.cells #[.slice a1 A.length c1] 22)) := (Below.refl _ _).alloc (Nat.le_refl _) _
  have hs : (w.alloc (.cells #[.slice a1 A.length c1] 22)).heap.size = w.heap.size + 1 := by simp
  refine .inr ⟨w.heap.size, 0, rfl, by omega, fun i hi => ?_⟩
  match i, hi with
  | 0, _ => exact ⟨a1, c1, by simp, h1.below hb, fun x hx => by have := b1 x hx; omega⟩

theorem union_any (a1 a2 : Option Addr) (c1 c2 : Nat) (A B : List Spn) (w : World) (h1 : SpAt w a1 A) (h2 : SpAt w a2 B) (b1 : ∀ x, a1 = some x → x.block < w.heap.size) (b2 : ∀ x, a2 = some x → x.block < w.heap.size) (l1 : A.length ≤ 4294967296) (l2 : B.length ≤ 4294967296) :
    Calls Try.prog 21 #[.slice a1 A.length c1, .slice a2 B.length c2] w fun e w' => Told fOr [A, B] w e w' := by
  have hcon := picked_any 48 fOr (some ⟨w.heap.size, 0, none⟩) 2 [A, B] (w.alloc (.cells #[.slice a1 A.length c1, .slice a2 B.length c2] 22)) wants48 (pair_at h1 h2 b1 b2) (fun L hL => by
    simp only [List.mem_cons, List.not_mem_nil, or_false] at hL
    rcases hL with rfl | rfl <;> assumption) (by simp) (by simp)
  simp only [List.length_cons, List.length_nil] at hcon
  have hb : Below w.heap.size w (w.alloc (.cells #[.slice a1 A.length c1, .slice a2 B.length c2] 22)) := (Below.refl _ _).alloc (Nat.le_refl _) _
  have HB := hide hb
  clear h1 h2 hb b1 b2
  go_enter Try.func21, Try.ntmps21
  go_wp2_with (go_at_call 47; refine hcon.mono ?_; rintro e w2 h2; have H2 := hide (Told.grow (f := fOr) h2 HB.out); rcases h2 with ⟨_, ⟨_, v, M, rfl, _, _⟩ | ⟨_, rfl⟩⟩)
  all_goals go_ret2
  all_goals exact H2.out

theorem meet_any (a1 a2 : Option Addr) (c1 c2 : Nat) (A B : List Spn) (w : World) (h1 : SpAt w a1 A) (h2 : SpAt w a2 B) (b1 : ∀ x, a1 = some x → x.block < w.heap.size) (b2 : ∀ x, a2 = some x → x.block < w.heap.size) (l1 : A.length ≤ 4294967296) (l2 : B.length ≤ 4294967296) :
    Calls Try.prog 22 #[.slice a1 A.length c1, .slice a2 B.length c2] w fun e w' => Told fAnd [A, B] w e w' := by
  have hcon := picked_any 49 fAnd (some ⟨w.heap.size, 0, none⟩) 2 [A, B] (w.alloc (.cells #[.slice a1 A.length c1, .slice a2 B.length c2] 22)) wants49 (pair_at h1 h2 b1 b2) (fun L hL => by
    simp only [List.mem_cons, List.not_mem_nil, or_false] at hL
    rcases hL with rfl | rfl <;> assumption) (by simp) (by simp)
  simp only [List.length_cons, List.length_nil] at hcon
  have hb : Below w.heap.size w (w.alloc (.cells #[.slice a1 A.length c1, .slice a2 B.length c2] 22)) := (Below.refl _ _).alloc (Nat.le_refl _) _
  have HB := hide hb
  clear h1 h2 hb b1 b2
  go_enter Try.func22, Try.ntmps22
  go_wp2_with (go_at_call 47; refine hcon.mono ?_; rintro e w2 h2; have H2 := hide (Told.grow (f := fAnd) h2 HB.out); rcases h2 with ⟨_, ⟨_, v, M, rfl, _, _⟩ | ⟨_, rfl⟩⟩)
  all_goals go_ret2
  all_goals exact H2.out

theorem less_any (a1 a2 : Option Addr) (c1 c2 : Nat) (A B : List Spn) (w : World) (h1 : SpAt w a1 A) (h2 : SpAt w a2 B) (b1 : ∀ x, a1 = some x → x.block < w.heap.size) (b2 : ∀ x, a2 = some x → x.block < w.heap.size) (l1 : A.length ≤ 4294967296) (l2 : B.length ≤ 4294967296) :
    Calls Try.prog 23 #[.slice a1 A.length c1, .slice a2 B.length c2] w fun e w' => Told fSub [A, B] w e w' := by
  have hcon := picked_any 50 fSub (some ⟨w.heap.size, 0, none⟩) 2 [A, B] (w.alloc (.cells #[.slice a1 A.length c1, .slice a2 B.length c2] 22)) wants50 (pair_at h1 h2 b1 b2) (fun L hL => by
    simp only [List.mem_cons, List.not_mem_nil, or_false] at hL
    rcases hL with rfl | rfl <;> assumption) (by simp) (by simp)
  simp only [List.length_cons, List.length_nil] at hcon
  have hb : Below w.heap.size w (w.alloc (.cells #[.slice a1 A.length c1, .slice a2 B.length c2] 22)) := (Below.refl _ _).alloc (Nat.le_refl _) _
  have HB := hide hb
  clear h1 h2 hb b1 b2
  go_enter Try.func23, Try.ntmps23
  go_wp2_with (go_at_call 47; refine hcon.mono ?_; rintro e w2 h2; have H2 := hide (Told.grow (f := fSub) h2 HB.out); rcases h2 with ⟨_, ⟨_, v, M, rfl, _, _⟩ | ⟨_, rfl⟩⟩)
  all_goals go_ret2
  all_goals exact H2.out

theorem not_any (a1 : Option Addr) (c1 : Nat) (A : List Spn) (w : World) (h1 : SpAt w a1 A) (b1 : ∀ x, a1 = some x → x.block < w.heap.size) (l1 : A.length ≤ 4294967296) :
    Calls Try.prog 24 #[.slice a1 A.length c1] w fun e w' => Told fNot [A] w e w' := by
  have hcon := picked_any 51 fNot (some ⟨w.heap.size, 0, none⟩) 1 [A] (w.alloc (.cells #[.slice a1 A.length c1] 22)) wants51 (one_at h1 b1) (fun L hL => by
    simp only [List.mem_cons, List.not_mem_nil, or_false] at hL
    subst hL; assumption) (by simp) (by simp)
  simp only [List.length_cons, List.length_nil] at hcon
  have hb : Below w.heap.size w (w.alloc (.cells #[.slice a1 A.length c1] 22)) := (Below.refl _ _).alloc (Nat.le_refl _) _
  have HB := hide hb
  clear h1 hb b1
  go_enter Try.func24, Try.ntmps24
  go_wp2_with (go_at_call 47; refine hcon.mono ?_; rintro e w2 h2; have H2 := hide (Told.grow (f := fNot) h2 HB.out); rcases h2 with ⟨_, ⟨_, v, M, rfl, _, _⟩ | ⟨_, rfl⟩⟩)
  all_goals go_ret2
  all_goals exact H2.out
end Go.Proofs.Ytljagefcgijmlaa
