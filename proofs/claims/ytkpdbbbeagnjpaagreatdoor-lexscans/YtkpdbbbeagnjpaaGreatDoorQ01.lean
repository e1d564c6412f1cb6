/-
  What kind a rune is, by contract. No condition.
-/
import Derived.Test.YtkpdbbbeagnjpaaGreatDoorProg
import Derived.WalkKit
import Derived.WalkLawsBesides
import Derived.Below
import Derived.OneCell
import Derived.Deep.QuietTactic
import Derived.BigQuiet
namespace Go.Proofs.YtkpdbbbeagnjpaaGreatDoor
open Go.RowKit

def smB (r : Int) : Bool := decide (97 ≤ r) && decide (r ≤ 122)
def grB (r : Int) : Bool := decide (65 ≤ r) && decide (r ≤ 90)
def dgB (r : Int) : Bool := decide (48 ≤ r) && decide (r ≤ 57)
def txB (r : Int) : Bool := decide (32 ≤ r) && decide (r ≤ 126)
def esB (r : Int) : Bool := decide (r = 34) || decide (r = 92)
def blB (r : Int) : Bool := decide (r = 32) || decide (r = 9) || decide (r = 10) || decide (r = 13)
/-- Does a run of a kind (2 small letters, 3 great ones, else digits) go on by a rune? -/
def goB (k : Int) (r : Int) : Bool := if k = 2 then smB r || dgB r || decide (r = 95) || decide (r = 45) else if k = 3 then grB r else dgB r || decide (r = 46) || decide (r = 47)
theorem hide {P : Prop} (h : P) : Hid P := h
theorem isSmall_any (r : Int) (w : World) : Calls Tryz.prog 28 #[.int .i32 r] w fun e w' => e = .returned (.bool (smB r)) ∧ w' = w := by
  by_cases h1 : 97 ≤ r <;> by_cases h2 : r ≤ 122
  all_goals
    go_enter Tryz.func28, Tryz.ntmps28
    go_wp2
    go_ret
    exact ⟨by simp [smB, h1, h2], rfl⟩
theorem isGreat_any (r : Int) (w : World) : Calls Tryz.prog 45 #[.int .i32 r] w fun e w' => e = .returned (.bool (grB r)) ∧ w' = w := by
  by_cases h1 : 65 ≤ r <;> by_cases h2 : r ≤ 90
  all_goals
    go_enter Tryz.func45, Tryz.ntmps45
    go_wp2
    go_ret
    exact ⟨by simp [grB, h1, h2], rfl⟩
theorem isDigit_any (r : Int) (w : World) : Calls Tryz.prog 44 #[.int .i32 r] w fun e w' => e = .returned (.bool (dgB r)) ∧ w' = w := by
  by_cases h1 : 48 ≤ r <;> by_cases h2 : r ≤ 57
  all_goals
    go_enter Tryz.func44, Tryz.ntmps44
    go_wp2
    go_ret
    exact ⟨by simp [dgB, h1, h2], rfl⟩
theorem isText_any (r : Int) (w : World) : Calls Tryz.prog 23 #[.int .i32 r] w fun e w' => e = .returned (.bool (txB r)) ∧ w' = w := by
  by_cases h1 : 32 ≤ r <;> by_cases h2 : r ≤ 126
  all_goals
    go_enter Tryz.func23, Tryz.ntmps23
    go_wp2
    go_ret
    exact ⟨by simp [txB, h1, h2], rfl⟩
theorem isEsc_any (r : Int) (w : World) : Calls Tryz.prog 24 #[.int .i32 r] w fun e w' => e = .returned (.bool (esB r)) ∧ w' = w := by
  by_cases h1 : r = 34
  · subst h1
    go_enter Tryz.func24, Tryz.ntmps24
    go_wp2
    go_ret
    exact ⟨by simp [esB], rfl⟩
  · have e1 : (r == 34) = false := by simp [h1]
    by_cases h2 : r = 92
    · subst h2
      go_enter Tryz.func24, Tryz.ntmps24
      go_wp2
      go_ret
      exact ⟨by simp [esB], rfl⟩
    · have e2 : (r == 92) = false := by simp [h2]
      go_enter Tryz.func24, Tryz.ntmps24
      go_wp2
      go_ret
      exact ⟨by simp [esB, h1, h2], rfl⟩
theorem isBlank_any (r : Int) (w : World) : Calls Tryz.prog 55 #[.int .i32 r] w fun e w' => e = .returned (.bool (blB r)) ∧ w' = w := by
  have key : r = 32 ∨ r = 9 ∨ r = 10 ∨ r = 13 ∨ (¬ r = 32 ∧ ¬ r = 9 ∧ ¬ r = 10 ∧ ¬ r = 13) := by omega
  rcases key with rfl | rfl | rfl | rfl | ⟨h1, h2, h3, h4⟩
  all_goals
    go_enter Tryz.func55, Tryz.ntmps55
    go_wp2
    go_ret
    exact ⟨by simp_all [blB], rfl⟩
set_option maxHeartbeats 2000000 in
theorem goesOn_any (k r : Int) (w : World) : Calls Tryz.prog 29 #[.int .i64 k, .int .i32 r] w fun e w' => e = .returned (.bool (goB k r)) ∧ w' = w := by
  have H1 := hide (fun W => isSmall_any r W)
  have H2 := hide (fun W => isDigit_any r W)
  have H3 := hide (fun W => isGreat_any r W)
  have hs : ∀ b, Hid (smB r = b) → Hid (∀ W, Calls Tryz.prog 28 #[.int .i32 r] W fun e w' => e = .returned (.bool b) ∧ w' = W) := fun b h W => by rw [← h.out]; exact H1.out W
  have hd : ∀ b, Hid (dgB r = b) → Hid (∀ W, Calls Tryz.prog 44 #[.int .i32 r] W fun e w' => e = .returned (.bool b) ∧ w' = W) := fun b h W => by rw [← h.out]; exact H2.out W
  by_cases hk : k = 2
  · subst hk
    obtain ⟨b1, e1⟩ : ∃ b, Hid (smB r = b) := ⟨_, rfl⟩
    obtain ⟨b2, e2⟩ : ∃ b, Hid (dgB r = b) := ⟨_, rfl⟩
    have G1 := hs b1 e1
    have G2 := hd b2 e2
    have key : Hid (goB 2 r = (b1 || b2 || decide (r = 95) || decide (r = 45))) := by unfold Hid goB; rw [if_pos rfl, e1.out, e2.out]
    rw [key.out]
    clear hs hd H1 H2 H3 e1 e2 key
    have kk : r = 95 ∨ r = 45 ∨ (¬ r = 95 ∧ ¬ r = 45) := by omega
    cases b1 <;> cases b2 <;> rcases kk with rfl | rfl | ⟨h1, h2⟩
    all_goals
      go_enter Tryz.func29, Tryz.ntmps29
      go_wp2_with (first | (go_at_call 28; refine (G1.out _).mono ?_; rintro e wz ⟨rfl, hwz⟩; have hwz := hwz.symm; subst hwz) | (go_at_call 44; refine (G2.out _).mono ?_; rintro e wz ⟨rfl, hwz⟩; have hwz := hwz.symm; subst hwz))
      go_ret
      exact ⟨by simp_all, rfl⟩
  · have hk2 : (k == 2) = false := by simp [hk]
    by_cases hk3 : k = 3
    · subst hk3
      have key : Hid (goB 3 r = grB r) := by unfold Hid goB; rw [if_neg (by decide), if_pos rfl]
      rw [key.out]
      clear hs hd H1 H2 key
      go_enter Tryz.func29, Tryz.ntmps29
      go_wp2_with (go_at_call 45; refine (H3.out _).mono ?_; rintro e wz ⟨rfl, hwz⟩; have hwz := hwz.symm; subst hwz)
      go_ret
      exact ⟨rfl, rfl⟩
    · have hk4 : (k == 3) = false := by simp [hk3]
      obtain ⟨b2, e2⟩ : ∃ b, Hid (dgB r = b) := ⟨_, rfl⟩
      have G2 := hd b2 e2
      have key : Hid (goB k r = (b2 || decide (r = 46) || decide (r = 47))) := by unfold Hid goB; rw [if_neg hk, if_neg hk3, e2.out]
      rw [key.out]
      clear hs hd H1 H2 H3 e2 key
      have kk : r = 46 ∨ r = 47 ∨ (¬ r = 46 ∧ ¬ r = 47) := by omega
      cases b2 <;> rcases kk with rfl | rfl | ⟨h1, h2⟩
      all_goals
        go_enter Tryz.func29, Tryz.ntmps29
        go_wp2_with (go_at_call 44; refine (G2.out _).mono ?_; rintro e wz ⟨rfl, hwz⟩; have hwz := hwz.symm; subst hwz)
        go_ret
        exact ⟨by simp_all, rfl⟩
/-- The language's own words. -/
def wordsL : List (List UInt8) := [[108, 101, 116], [97, 108, 108, 111, 119], [100, 101, 110, 121], [119, 104, 101, 110], [97, 110, 100], [111, 114], [110, 111, 116], [116, 114, 117, 101], [102, 97, 108, 115, 101], [105, 110], [97, 100, 100, 114], [112, 111, 114, 116], [109, 101, 116, 104, 111, 100], [112, 97, 116, 104], [104, 101, 97, 100, 101, 114], [104, 97, 115]]
def wdB (s : List UInt8) : Bool := wordsL.contains s
set_option maxHeartbeats 4000000 in
theorem isWord_any (s : List UInt8) (w : World) : Calls Tryz.prog 14 #[.string ⟨s.toArray⟩] w fun e w' => e = .returned (.bool (wdB s)) ∧ w' = w := by
  cases hb : wdB s with
  | true =>
    have hm : s ∈ wordsL := by simpa [wdB] using hb
    simp only [wordsL, List.mem_cons, List.not_mem_nil, or_false] at hm
    clear hb
    rcases hm with rfl | rfl | rfl | rfl | rfl | rfl | rfl | rfl | rfl | rfl | rfl | rfl | rfl | rfl | rfl | rfl
    all_goals
      go_enter Tryz.func14, Tryz.ntmps14
      go_wp2
      go_ret
      exact ⟨rfl, rfl⟩
  | false =>
    have hm : ∀ t ∈ wordsL, ¬ s = t := fun t ht e => by
      rw [wdB, e] at hb
      simp [ht] at hb
    simp only [wordsL, List.mem_cons, List.not_mem_nil, or_false, forall_eq_or_imp, forall_eq] at hm
    clear hb
    obtain ⟨h1, h2, h3, h4, h5, h6, h7, h8, h9, h10, h11, h12, h13, h14, h15, h16⟩ := hm
    have g1 : (s == [108, 101, 116]) = false := by simpa using h1
    have g2 : (s == [97, 108, 108, 111, 119]) = false := by simpa using h2
    have g3 : (s == [100, 101, 110, 121]) = false := by simpa using h3
    have g4 : (s == [119, 104, 101, 110]) = false := by simpa using h4
    have g5 : (s == [97, 110, 100]) = false := by simpa using h5
    have g6 : (s == [111, 114]) = false := by simpa using h6
    have g7 : (s == [110, 111, 116]) = false := by simpa using h7
    have g8 : (s == [116, 114, 117, 101]) = false := by simpa using h8
    have g9 : (s == [102, 97, 108, 115, 101]) = false := by simpa using h9
    have g10 : (s == [105, 110]) = false := by simpa using h10
    have g11 : (s == [97, 100, 100, 114]) = false := by simpa using h11
    have g12 : (s == [112, 111, 114, 116]) = false := by simpa using h12
    have g13 : (s == [109, 101, 116, 104, 111, 100]) = false := by simpa using h13
    have g14 : (s == [112, 97, 116, 104]) = false := by simpa using h14
    have g15 : (s == [104, 101, 97, 100, 101, 114]) = false := by simpa using h15
    have g16 : (s == [104, 97, 115]) = false := by simpa using h16
    clear h1 h2 h3 h4 h5 h6 h7 h8 h9 h10 h11 h12 h13 h14 h15 h16
    go_enter Tryz.func14, Tryz.ntmps14
    go_wp2
    go_ret
    exact ⟨rfl, rfl⟩
end Go.Proofs.YtkpdbbbeagnjpaaGreatDoor
/-
  Lists of spans as they lie in memory; what a call may have turned; bounded and Right by their contracts. No condition but that a list is no longer than a process can hold.
-/
namespace Go.Proofs.YtkpdbbbeagnjpaaGreatDoor
open Go.RowKit Go.Lib

/-- All that was there is as it was, but for the blocks of F. -/
structure Kept (F : Nat → Prop) (w w' : World) : Prop where
  os : w'.os = w.os
  tape : w'.tape = w.tape
  output : w'.output = w.output
  size : w.heap.size ≤ w'.heap.size
  block : ∀ k, k < w.heap.size → ¬ F k → w'.heap[k]? = w.heap[k]?

theorem Kept.refl (F : Nat → Prop) (w : World) : Kept F w w := ⟨rfl, rfl, rfl, Nat.le_refl _, fun _ _ _ => rfl⟩
theorem Kept.trans {F : Nat → Prop} {a b c : World} (h : Kept F a b) (k : Kept F b c) : Kept F a c :=
  ⟨k.os.trans h.os, k.tape.trans h.tape, k.output.trans h.output, Nat.le_trans h.size k.size, fun i hi hf => (k.block i (Nat.lt_of_lt_of_le hi h.size) hf).trans (h.block i hi hf)⟩
theorem Kept.trans_new {F G : Nat → Prop} {a b c : World} (h : Kept F a b) (k : Kept G b c) (hG : ∀ i, i < a.heap.size → G i → F i) : Kept F a c :=
  ⟨k.os.trans h.os, k.tape.trans h.tape, k.output.trans h.output, Nat.le_trans h.size k.size, fun i hi hf => (k.block i (Nat.lt_of_lt_of_le hi h.size) (fun hg => hf (hG i hi hg))).trans (h.block i hi hf)⟩
theorem Kept.mono {F G : Nat → Prop} {a b : World} (h : Kept F a b) (hG : ∀ i, F i → G i) : Kept G a b :=
  ⟨h.os, h.tape, h.output, h.size, fun i hi hf => h.block i hi (fun hg => hf (hG i hg))⟩
theorem Kept.of_below {F : Nat → Prop} {a b : World} (h : Below a.heap.size a b) : Kept F a b :=
  ⟨h.os, h.tape, h.output, h.size, fun i hi _ => h.block i hi⟩
theorem Kept.below {F : Nat → Prop} {B : Nat} {a b : World} (h : Kept F a b) (hB : B ≤ a.heap.size) (hF : ∀ i, F i → B ≤ i) : Below B a b :=
  ⟨h.os, h.tape, h.output, h.size, fun i hi => h.block i (by omega) (fun hf => by have := hF i hf; omega)⟩
theorem Kept.setCell {F : Nat → Prop} {a w : World} (h : Kept F a w) {p : Addr} (hp : F p.block) (u : Value) : Kept F a (w.setCell p u) :=
  h.trans ⟨rfl, rfl, rfl, by simp [World.setCell], fun k _ hf => Below.heap_setCell _ _ _ _ (fun e => hf (e ▸ hp))⟩
theorem Kept.drew {F : Nat → Prop} {a w : World} (h : Kept F a w) : Kept F a w.drew := ⟨h.os, h.tape, h.output, h.size, h.block⟩
theorem Kept.grown {F : Nat → Prop} {a w w' : World} {row : Option Nat} (h : Kept F a w) (hg : w.grownBy w' row) (hr : ∀ k, row = some k → F k) : Kept F a w' :=
  h.trans ⟨hg.os, hg.tape, hg.output, hg.size, fun k hk hf => hg.block k hk (fun e => hf (hr k e.symm))⟩
theorem Kept.cell {F : Nat → Prop} {w w' : World} (h : Kept F w w') {p : Addr} (hp : p.block < w.heap.size) (hf : ¬ F p.block) : w'.cell? p = w.cell? p := World.cell?_of_block (w := w) (h.block p.block hp hf)

section
variable {P : Program} {ops : Array Oper} {C : World → Prop} {Q : Act → Prop}
/-- The walk of a region in its text's order, shut. -/
structure QW (P : Program) (ops : Array Oper) (C : World → Prop) (Q : Act → Prop) (l : List Oper) (a : Act) : Prop where
  out : wpQuiet P ops C Q l a
theorem QW.skip {o : Oper} {rest : List Oper} {a : Act} (hw : Region.wanted o (yielded ops a.tmps) = false) (h : QW P ops C Q rest (a.put o.dst undef)) : QW P ops C Q (o :: rest) a :=
  ⟨wpQuiet_step fun K hK => by rw [hw]; exact hK _ h.out⟩
theorem QW.take {o : Oper} {rest : List Oper} {a : Act} (hw : Region.wanted o (yielded ops a.tmps) = true) (h : ∃ v, (∀ w, C w → o.quietAt P a C w v) ∧ QW P ops C Q rest (a.put o.dst v)) : QW P ops C Q (o :: rest) a :=
  ⟨wpQuiet_step fun K hK => by rw [hw]; obtain ⟨v, h1, h2⟩ := h; exact ⟨v, h1, hK _ h2.out⟩⟩
theorem QW.nil {a : Act} (h : Q a) : QW P ops C Q [] a := ⟨wpQuiet_nil h⟩
end
end Go.Proofs.YtkpdbbbeagnjpaaGreatDoor
