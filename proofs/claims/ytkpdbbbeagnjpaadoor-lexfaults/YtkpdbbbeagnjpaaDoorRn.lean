/-
  What kind a rune is, by contract. No condition.
-/
import Derived.Test.YtkpdbbbeagnjpaaDoorProg
import Derived.WalkKit
namespace Go.Proofs.YtkpdbbbeagnjpaaDoor
open Go.RowKit

def smB (r : Int) : Bool := decide (97 ≤ r) && decide (r ≤ 122)
def grB (r : Int) : Bool := decide (65 ≤ r) && decide (r ≤ 90)
def dgB (r : Int) : Bool := decide (48 ≤ r) && decide (r ≤ 57)
def txB (r : Int) : Bool := decide (32 ≤ r) && decide (r ≤ 126)
def esB (r : Int) : Bool := decide (r = 34) || decide (r = 92)
def blB (r : Int) : Bool := decide (r = 32) || decide (r = 9) || decide (r = 10) || decide (r = 13)
/-- Does a run of a kind (2 small letters, 3 great ones, else digits) go on by a rune? -/
def goB (k : Int) (r : Int) : Bool := if k = 2 then smB r || dgB r || decide (r = 95) || decide (r = 45) else if k = 3 then grB r else dgB r || decide (r = 46) || decide (r = 47)
theorem hide {P : Prop} (h : P) : Hid P := h
theorem isSmall_any (r : Int) (w : World) : Calls Tryd.prog 17 #[.int .i32 r] w fun e w' => e = .returned (.bool (smB r)) ∧ w' = w := by
  by_cases h1 : 97 ≤ r <;> by_cases h2 : r ≤ 122
  all_goals
    go_enter Tryd.func17, Tryd.ntmps17
    go_wp2
    go_ret
    exact ⟨by simp [smB, h1, h2], rfl⟩
theorem isGreat_any (r : Int) (w : World) : Calls Tryd.prog 27 #[.int .i32 r] w fun e w' => e = .returned (.bool (grB r)) ∧ w' = w := by
  by_cases h1 : 65 ≤ r <;> by_cases h2 : r ≤ 90
  all_goals
    go_enter Tryd.func27, Tryd.ntmps27
    go_wp2
    go_ret
    exact ⟨by simp [grB, h1, h2], rfl⟩
theorem isDigit_any (r : Int) (w : World) : Calls Tryd.prog 26 #[.int .i32 r] w fun e w' => e = .returned (.bool (dgB r)) ∧ w' = w := by
  by_cases h1 : 48 ≤ r <;> by_cases h2 : r ≤ 57
  all_goals
    go_enter Tryd.func26, Tryd.ntmps26
    go_wp2
    go_ret
    exact ⟨by simp [dgB, h1, h2], rfl⟩
theorem isText_any (r : Int) (w : World) : Calls Tryd.prog 13 #[.int .i32 r] w fun e w' => e = .returned (.bool (txB r)) ∧ w' = w := by
  by_cases h1 : 32 ≤ r <;> by_cases h2 : r ≤ 126
  all_goals
    go_enter Tryd.func13, Tryd.ntmps13
    go_wp2
    go_ret
    exact ⟨by simp [txB, h1, h2], rfl⟩
theorem isEsc_any (r : Int) (w : World) : Calls Tryd.prog 14 #[.int .i32 r] w fun e w' => e = .returned (.bool (esB r)) ∧ w' = w := by
  by_cases h1 : r = 34
  · subst h1
    go_enter Tryd.func14, Tryd.ntmps14
    go_wp2
    go_ret
    exact ⟨by simp [esB], rfl⟩
  · have e1 : (r == 34) = false := by simp [h1]
    by_cases h2 : r = 92
    · subst h2
      go_enter Tryd.func14, Tryd.ntmps14
      go_wp2
      go_ret
      exact ⟨by simp [esB], rfl⟩
    · have e2 : (r == 92) = false := by simp [h2]
      go_enter Tryd.func14, Tryd.ntmps14
      go_wp2
      go_ret
      exact ⟨by simp [esB, h1, h2], rfl⟩
theorem isBlank_any (r : Int) (w : World) : Calls Tryd.prog 36 #[.int .i32 r] w fun e w' => e = .returned (.bool (blB r)) ∧ w' = w := by
  have key : r = 32 ∨ r = 9 ∨ r = 10 ∨ r = 13 ∨ (¬ r = 32 ∧ ¬ r = 9 ∧ ¬ r = 10 ∧ ¬ r = 13) := by omega
  rcases key with rfl | rfl | rfl | rfl | ⟨h1, h2, h3, h4⟩
  all_goals
    go_enter Tryd.func36, Tryd.ntmps36
    go_wp2
    go_ret
    exact ⟨by simp_all [blB], rfl⟩
set_option maxHeartbeats 2000000 in
theorem goesOn_any (k r : Int) (w : World) : Calls Tryd.prog 18 #[.int .i64 k, .int .i32 r] w fun e w' => e = .returned (.bool (goB k r)) ∧ w' = w := by
  have H1 := hide (fun W => isSmall_any r W)
  have H2 := hide (fun W => isDigit_any r W)
  have H3 := hide (fun W => isGreat_any r W)
  have hs : ∀ b, Hid (smB r = b) → Hid (∀ W, Calls Tryd.prog 17 #[.int .i32 r] W fun e w' => e = .returned (.bool b) ∧ w' = W) := fun b h W => by rw [← h.out]; exact H1.out W
  have hd : ∀ b, Hid (dgB r = b) → Hid (∀ W, Calls Tryd.prog 26 #[.int .i32 r] W fun e w' => e = .returned (.bool b) ∧ w' = W) := fun b h W => by rw [← h.out]; exact H2.out W
  by_cases hk : k = 2
  · subst hk
    obtain ⟨b1, e1⟩ : ∃ b, Hid (smB r = b) := ⟨_, rfl⟩
    obtain ⟨b2, e2⟩ : ∃ b, Hid (dgB r = b) := ⟨_, rfl⟩
    have G1 := hs b1 e1
    have G2 := hd b2 e2
    have key : Hid (goB 2 r = (b1 || b2 || decide (r = 95) || decide (r = 45))) := by unfold Hid goB; rw [if_pos rfl, e1.out, e2.out]
    rw [key.out]
    clear hs hd H1 H2 H3 e1 e2 key
    have kk : r = 95 ∨ r = 45 ∨ (¬ r = 95 ∧ ¬ r = 45) := by omega
    cases b1 <;> cases b2 <;> rcases kk with rfl | rfl | ⟨h1, h2⟩
    all_goals
      go_enter Tryd.func18, Tryd.ntmps18
      go_wp2_with (first | (go_at_call 17; refine (G1.out _).mono ?_; rintro e wz ⟨rfl, hwz⟩; have hwz := hwz.symm; subst hwz) | (go_at_call 26; refine (G2.out _).mono ?_; rintro e wz ⟨rfl, hwz⟩; have hwz := hwz.symm; subst hwz))
      go_ret
      exact ⟨by simp_all, rfl⟩
  · have hk2 : (k == 2) = false := by simp [hk]
    by_cases hk3 : k = 3
    · subst hk3
      have key : Hid (goB 3 r = grB r) := by unfold Hid goB; rw [if_neg (by decide), if_pos rfl]
      rw [key.out]
      clear hs hd H1 H2 key
      go_enter Tryd.func18, Tryd.ntmps18
      go_wp2_with (go_at_call 27; refine (H3.out _).mono ?_; rintro e wz ⟨rfl, hwz⟩; have hwz := hwz.symm; subst hwz)
      go_ret
      exact ⟨rfl, rfl⟩
    · have hk4 : (k == 3) = false := by simp [hk3]
      obtain ⟨b2, e2⟩ : ∃ b, Hid (dgB r = b) := ⟨_, rfl⟩
      have G2 := hd b2 e2
      have key : Hid (goB k r = (b2 || decide (r = 46) || decide (r = 47))) := by unfold Hid goB; rw [if_neg hk, if_neg hk3, e2.out]
      rw [key.out]
      clear hs hd H1 H2 H3 e2 key
      have kk : r = 46 ∨ r = 47 ∨ (¬ r = 46 ∧ ¬ r = 47) := by omega
      cases b2 <;> rcases kk with rfl | rfl | ⟨h1, h2⟩
      all_goals
        go_enter Tryd.func18, Tryd.ntmps18
        go_wp2_with (go_at_call 26; refine (G2.out _).mono ?_; rintro e wz ⟨rfl, hwz⟩; have hwz := hwz.symm; subst hwz)
        go_ret
        exact ⟨by simp_all, rfl⟩
/-- The language's own words. -/
def wordsL : List (List UInt8) := [[108, 101, 116], [97, 108, 108, 111, 119], [100, 101, 110, 121], [119, 104, 101, 110], [97, 110, 100], [111, 114], [110, 111, 116], [116, 114, 117, 101], [102, 97, 108, 115, 101], [105, 110], [97, 100, 100, 114], [112, 111, 114, 116], [109, 101, 116, 104, 111, 100], [112, 97, 116, 104], [104, 101, 97, 100, 101, 114], [104, 97, 115]]
def wdB (s : List UInt8) : Bool := wordsL.contains s
set_option maxHeartbeats 4000000 in
theorem isWord_any (s : List UInt8) (w : World) : Calls Tryd.prog 9 #[.string ⟨s.toArray⟩] w fun e w' => e = .returned (.bool (wdB s)) ∧ w' = w := by
  cases hb : wdB s with
  | true =>
    have hm : s ∈ wordsL := by simpa [wdB] using hb
    simp only [wordsL, List.mem_cons, List.not_mem_nil, or_false] at hm
    clear hb
    rcases hm with rfl | rfl | rfl | rfl | rfl | rfl | rfl | rfl | rfl | rfl | rfl | rfl | rfl | rfl | rfl | rfl
    all_goals
      go_enter Tryd.func9, Tryd.ntmps9
      go_wp2
      go_ret
      exact ⟨rfl, rfl⟩
  | false =>
    have hm : ∀ t ∈ wordsL, ¬ s = t := fun t ht e => by
      rw [wdB, e] at hb
      simp [ht] at hb
    simp only [wordsL, List.mem_cons, List.not_mem_nil, or_false, forall_eq_or_imp, forall_eq] at hm
    clear hb
    obtain ⟨h1, h2, h3, h4, h5, h6, h7, h8, h9, h10, h11, h12, h13, h14, h15, h16⟩ := hm
    have g1 : (s == [108, 101, 116]) = false := by simpa using h1
    have g2 : (s == [97, 108, 108, 111, 119]) = false := by simpa using h2
    have g3 : (s == [100, 101, 110, 121]) = false := by simpa using h3
    have g4 : (s == [119, 104, 101, 110]) = false := by simpa using h4
    have g5 : (s == [97, 110, 100]) = false := by simpa using h5
    have g6 : (s == [111, 114]) = false := by simpa using h6
    have g7 : (s == [110, 111, 116]) = false := by simpa using h7
    have g8 : (s == [116, 114, 117, 101]) = false := by simpa using h8
    have g9 : (s == [102, 97, 108, 115, 101]) = false := by simpa using h9
    have g10 : (s == [105, 110]) = false := by simpa using h10
    have g11 : (s == [97, 100, 100, 114]) = false := by simpa using h11
    have g12 : (s == [112, 111, 114, 116]) = false := by simpa using h12
    have g13 : (s == [109, 101, 116, 104, 111, 100]) = false := by simpa using h13
    have g14 : (s == [112, 97, 116, 104]) = false := by simpa using h14
    have g15 : (s == [104, 101, 97, 100, 101, 114]) = false := by simpa using h15
    have g16 : (s == [104, 97, 115]) = false := by simpa using h16
    clear h1 h2 h3 h4 h5 h6 h7 h8 h9 h10 h11 h12 h13 h14 h15 h16
    go_enter Tryd.func9, Tryd.ntmps9
    go_wp2
    go_ret
    exact ⟨rfl, rfl⟩
end Go.Proofs.YtkpdbbbeagnjpaaDoor
