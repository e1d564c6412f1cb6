/-
  The document's kinds of bytes, runs, words and names by their contracts. Condition: texts no longer than a process can hold.
-/
import Derived.Test.YtkpdbbbeagnjpaaGreatDoorQ05
import Derived.Test.YtkpdbbbeagnjpaaGreatDoorQ03
namespace Go.Proofs.YtkpdbbbeagnjpaaGreatDoor
open Go.RowKit Go.Lib

theorem smallD_any (r : Int) (w : World) : Calls Tryz.prog 30 #[.int .u8 r] w fun e w' => e = .returned (.bool (smB r)) ∧ w' = w := by
  by_cases h1 : 97 ≤ r <;> by_cases h2 : r ≤ 122
  all_goals
    go_enter Tryz.func30, Tryz.ntmps30
    go_wp2
    go_ret
    exact ⟨by simp [smB, h1, h2], rfl⟩
theorem greatD_any (r : Int) (w : World) : Calls Tryz.prog 38 #[.int .u8 r] w fun e w' => e = .returned (.bool (grB r)) ∧ w' = w := by
  by_cases h1 : 65 ≤ r <;> by_cases h2 : r ≤ 90
  all_goals
    go_enter Tryz.func38, Tryz.ntmps38
    go_wp2
    go_ret
    exact ⟨by simp [grB, h1, h2], rfl⟩
theorem digitD_any (r : Int) (w : World) : Calls Tryz.prog 39 #[.int .u8 r] w fun e w' => e = .returned (.bool (dgB r)) ∧ w' = w := by
  by_cases h1 : 48 ≤ r <;> by_cases h2 : r ≤ 57
  all_goals
    go_enter Tryz.func39, Tryz.ntmps39
    go_wp2
    go_ret
    exact ⟨by simp [dgB, h1, h2], rfl⟩
/-- The document's kinds of runs are one less. -/
theorem goB_two (r : Int) : goB 2 r = (smB r || dgB r || decide (r = 95) || decide (r = 45)) := by unfold goB; rw [if_pos rfl]
theorem goB_three (r : Int) : goB 3 r = grB r := by unfold goB; rw [if_neg (by decide), if_pos rfl]
theorem goB_four (r : Int) : goB 4 r = (dgB r || decide (r = 46) || decide (r = 47)) := by unfold goB; rw [if_neg (by decide), if_neg (by decide)]
set_option maxHeartbeats 4000000 in
theorem within_any (k r : Int) (hk : k = 1 ∨ k = 2 ∨ k = 3) (w : World) : Calls Tryz.prog 46 #[.int .i64 k, .int .u8 r] w fun e w' => e = .returned (.bool (goB (k + 1) r)) ∧ w' = w := by
  have H1 := hide (fun W => smallD_any r W)
  have H2 := hide (fun W => digitD_any r W)
  have H3 := hide (fun W => greatD_any r W)
  rcases hk with rfl | rfl | rfl
  · rw [show (1 : Int) + 1 = 2 from rfl, goB_two]
    generalize smB r = b1 at *
    generalize dgB r = b2 at *
    generalize grB r = b3 at *
    have kk : r = 95 ∨ r = 45 ∨ (¬ r = 95 ∧ ¬ r = 45) := by omega
    cases b1 <;> cases b2 <;> rcases kk with rfl | rfl | ⟨h1, h2⟩
    all_goals
      go_enter Tryz.func46, Tryz.ntmps46
      go_wp2_with (first | (go_at_call 30; refine (H1.out _).mono ?_; rintro e wz ⟨rfl, hwz⟩; have hwz := hwz.symm; subst hwz) | (go_at_call 39; refine (H2.out _).mono ?_; rintro e wz ⟨rfl, hwz⟩; have hwz := hwz.symm; subst hwz) | (go_at_call 38; refine (H3.out _).mono ?_; rintro e wz ⟨rfl, hwz⟩; have hwz := hwz.symm; subst hwz))
      go_ret
      exact ⟨by simp_all, rfl⟩
  · rw [show (2 : Int) + 1 = 3 from rfl, goB_three]
    generalize smB r = b1 at *
    generalize dgB r = b2 at *
    generalize grB r = b3 at *
    go_enter Tryz.func46, Tryz.ntmps46
    go_wp2_with (first | (go_at_call 30; refine (H1.out _).mono ?_; rintro e wz ⟨rfl, hwz⟩; have hwz := hwz.symm; subst hwz) | (go_at_call 39; refine (H2.out _).mono ?_; rintro e wz ⟨rfl, hwz⟩; have hwz := hwz.symm; subst hwz) | (go_at_call 38; refine (H3.out _).mono ?_; rintro e wz ⟨rfl, hwz⟩; have hwz := hwz.symm; subst hwz))
    go_ret
    exact ⟨rfl, rfl⟩
  · rw [show (3 : Int) + 1 = 4 from rfl, goB_four]
    generalize smB r = b1 at *
    generalize dgB r = b2 at *
    generalize grB r = b3 at *
    have kk : r = 46 ∨ r = 47 ∨ (¬ r = 46 ∧ ¬ r = 47) := by omega
    cases b2 <;> rcases kk with rfl | rfl | ⟨h1, h2⟩
    all_goals
      go_enter Tryz.func46, Tryz.ntmps46
      go_wp2_with (first | (go_at_call 30; refine (H1.out _).mono ?_; rintro e wz ⟨rfl, hwz⟩; have hwz := hwz.symm; subst hwz) | (go_at_call 39; refine (H2.out _).mono ?_; rintro e wz ⟨rfl, hwz⟩; have hwz := hwz.symm; subst hwz) | (go_at_call 38; refine (H3.out _).mono ?_; rintro e wz ⟨rfl, hwz⟩; have hwz := hwz.symm; subst hwz))
      go_ret
      exact ⟨by simp_all, rfl⟩
/-- Where a run ends that is looked for from a place on. -/
def IsRun (k : Int) (s : By) (i j : Nat) : Prop := i ≤ j ∧ j ≤ s.length ∧ (∀ q (hq : q < s.length), i ≤ q → q < j → goB k (bI s[q]) = true) ∧ ∀ hj : j < s.length, goB k (bI s[j]) = false
set_option maxHeartbeats 4000000 in
set_option maxRecDepth 100000 in
theorem run_any (k : Int) (hk : k = 1 ∨ k = 2 ∨ k = 3) (s : By) (i : Nat) (hi : i ≤ s.length) (hs : s.length ≤ 140737488351232) (w : World) :
    Calls Tryz.prog 31 #[.int .i64 k, .string ⟨s.toArray⟩, .int .i64 (i : Nat)] w fun e w' => (∃ j : Nat, e = .returned (.int .i64 (j : Nat)) ∧ IsRun (k + 1) s i j) ∧ w' = w := by
  have hsz := bs_size s
  go_enter Tryz.func31, Tryz.ntmps31
  go_wp2
  go_loopg [2] (s.length + 1) (fun g x wr => ∃ j : Nat, x = .int .i64 (j : Nat) ∧ i ≤ j ∧ j ≤ s.length ∧ Hid (∀ q (hq : q < s.length), i ≤ q → q < j → goB (k + 1) (bI s[q]) = true) ∧ wr = w ∧ s.length - j < g)
  case atStart => exact ⟨i, rfl, Nat.le_refl _, hi, fun q hq h1 h2 => by omega, rfl, by omega⟩
  case round =>
    obtain ⟨j, rfl, hj0, hj1, HR, hw, hg⟩ := hrel
    have HG := hide hg
    subst hw
    clear hg
    by_cases hj : j < s.length
    · have hj' : (j : Int) < (s.length : Int) := by omega
      have HW := hide (within_any k (bI s[j]) hk wr)
      have HR2 : Hid (goB (k + 1) (bI s[j]) = true → ∀ q (hq : q < s.length), i ≤ q → q < j + 1 → goB (k + 1) (bI s[q]) = true) := fun h q hq h1 h2 => by
        by_cases h3 : q < j
        · exact HR.out q hq h1 h3
        · obtain rfl : q = j := by omega
          exact h
      have HEX : Hid (goB (k + 1) (bI s[j]) = false → IsRun (k + 1) s i j) := fun h => ⟨hj0, hj1, HR.out, fun _ => h⟩
      obtain ⟨y, hy⟩ : ∃ y, s[j] = y := ⟨_, rfl⟩
      have hgt : ∀ hk, (⟨s.toArray⟩ : ByteArray)[j]'hk = y := fun _ => hy
      rw [hy] at HW HR2 HEX
      unfold bI at HW
      cases hgo : goB (k + 1) (bI y) with
      | true =>
        rw [show goB (k + 1) (y.toNat : Int) = true from hgo] at HW
        have HR3 := hide (HR2.out hgo)
        have f1 : IntKind.i64.wrap ((j : Int) + 1) = (j : Int) + 1 := by rw [show (j : Int) + 1 = ((j + 1 : Nat) : Int) by simp]; simp [IntKind.wrap, IntKind.bits, IntKind.signed]; omega
        clear hgo HR HR2 HEX hy
        go_wp2_with (go_at_call 46; refine HW.out.mono ?_; rintro e wz ⟨rfl, hwz⟩; have hwz := hwz.symm; subst hwz)
        go_roundg (s.length - (j + 1) + 1)
        case measure => have := HG.out; omega
        case rel => exact ⟨j + 1, by first | rfl | go_num | (congr 1; omega), by omega, by omega, HR3, rfl, by omega⟩
      | false =>
        rw [show goB (k + 1) (y.toNat : Int) = false from hgo] at HW
        have HE2 := hide (HEX.out hgo)
        clear hgo HR HR2 HEX hy
        go_wp2_with (go_at_call 46; refine HW.out.mono ?_; rintro e wz ⟨rfl, hwz⟩; have hwz := hwz.symm; subst hwz)
        go_ret
        exact ⟨⟨j, rfl, HE2.out⟩, rfl⟩
    · obtain rfl : j = s.length := by omega
      have hj' : ¬ (s.length : Int) < (s.length : Int) := by omega
      have HE2 : Hid (IsRun (k + 1) s i s.length) := ⟨hj0, Nat.le_refl _, HR.out, fun h => absurd h (by omega)⟩
      go_wp2
      go_ret
      exact ⟨⟨s.length, rfl, HE2.out⟩, rfl⟩
theorem words_cells (W : World) (b : Nat) (h : W.heap[b]? = some (.cells (wordsL.map fun t => Value.string ⟨t.toArray⟩).toArray 9 (0, 0))) (i : Nat) (hi : i < 16) : W.cell? ⟨b, i, none⟩ = some (.string ⟨(wordsL.getD i []).toArray⟩) := by
  rw [cell_of_row _ _ _ _ _ _ h]
  have hl : i < wordsL.length := hi
  simp [List.getD_eq_getElem?_getD, hl]
set_option maxHeartbeats 4000000 in
set_option maxRecDepth 100000 in
theorem words_any (w : World) : Calls Tryz.prog 27 #[] w fun e w' => e = .returned (.slice (some ⟨w.heap.size, 0, none⟩) 16 16) ∧ w' = w.alloc (.cells (wordsL.map fun t => Value.string ⟨t.toArray⟩).toArray 9) := by
  go_enter Tryz.func27, Tryz.ntmps27
  go_wp2
  go_ret
  exact ⟨rfl, rfl⟩
set_option maxHeartbeats 4000000 in
set_option maxRecDepth 100000 in
theorem isWordD_any (s : By) (w : World) : Calls Tryz.prog 15 #[.string ⟨s.toArray⟩] w fun e w' => e = .returned (.bool (wdB s)) ∧ Below w.heap.size w w' := by
  have HW := hide (words_any w)
  have HX : Hid (Below w.heap.size w (w.alloc (.cells (wordsL.map fun t => Value.string ⟨t.toArray⟩).toArray 9))) := al (Below.refl _ _) _
  have HB := hide (heap_alloc_new w (.cells (wordsL.map fun t => Value.string ⟨t.toArray⟩).toArray 9))
  go_enter Tryz.func15, Tryz.ntmps15
  go_wp2_with (go_at_call 27; refine HW.out.mono ?_; rintro e w2 ⟨rfl, hw2⟩; rw [← hw2] at HX HB; clear hw2)
  clear HW
  go_loopg [4] 17 (fun g x wr => ∃ i : Nat, x = .int .i64 (i : Nat) ∧ i ≤ 16 ∧ Hid (∀ j, j < i → ¬ wordsL.getD j [] = s) ∧ wr = w2 ∧ 16 - i < g)
  case atStart => exact ⟨0, rfl, by omega, fun j hj => by omega, rfl, by omega⟩
  case round =>
    obtain ⟨i, rfl, hi1, HN, hw, hg⟩ := hrel
    have HG := hide hg
    subst hw
    clear hg
    by_cases hi : i < 16
    · have hi' : (i : Int) < 16 := by omega
      have hc := words_cells wr w.heap.size HB.out i hi
      have hbl := lt_of_block HB.out
      have HN2 : Hid (¬ wordsL.getD i [] = s → ∀ j, j < i + 1 → ¬ wordsL.getD j [] = s) := fun h j hj => by
        by_cases h3 : j < i
        · exact HN.out j h3
        · obtain rfl : j = i := by omega
          exact h
      have HY : Hid (wordsL.getD i [] = s → wdB s = true) := fun h => by
        have hl : i < wordsL.length := hi
        rw [List.getD_eq_getElem?_getD, List.getElem?_eq_getElem hl, Option.getD_some] at h
        unfold wdB
        rw [← h]
        simp
      generalize wordsL.getD i [] = t at *
      by_cases ht : t = s
      · subst ht
        have HY2 := hide (HY.out rfl)
        clear HN2 HY HN
        go_wp2
        go_ret
        exact ⟨by rw [HY2.out]; rfl, HX.out⟩
      · have ht' : (t == s) = false := by simp [ht]
        have HN3 := hide (HN2.out ht)
        have f1 : IntKind.i64.wrap ((i : Int) + 1) = (i : Int) + 1 := by rw [show (i : Int) + 1 = ((i + 1 : Nat) : Int) by simp]; simp [IntKind.wrap, IntKind.bits, IntKind.signed]; omega
        clear HN2 HY HN
        go_wp2
        go_roundg (16 - (i + 1) + 1)
        case measure => have := HG.out; omega
        case rel => exact ⟨i + 1, by first | rfl | go_num | (congr 1; omega), by omega, HN3, rfl, by omega⟩
    · obtain rfl : i = 16 := by omega
      have HY2 : Hid (wdB s = false) := by
        unfold Hid wdB
        rw [← Bool.not_eq_true]
        intro h
        have hm : s ∈ wordsL := by simpa using h
        obtain ⟨j, hj, e⟩ := List.getElem_of_mem hm
        refine HN.out j hj ?_
        rw [List.getD_eq_getElem?_getD, List.getElem?_eq_getElem hj, Option.getD_some]
        exact e
      go_wp2
      go_ret
      exact ⟨by rw [HY2.out]; rfl, HX.out⟩
/-- A name, as the document says it. -/
theorem nm_run {s : By} {j : Nat} (h : IsRun 2 s 0 j) : decide (j = s.length) = allGo 2 s := by
  obtain ⟨_, h1, h2, h3⟩ := h
  by_cases e : j = s.length
  · subst e
    rw [allGo_true (fun i hi => h2 i hi (by omega) hi)]
    simp
  · rw [allGo_false (show j < s.length by omega) (h3 (by omega))]
    simp [e]
set_option maxHeartbeats 4000000 in
set_option maxRecDepth 100000 in
theorem isNameD_any (s : By) (w : World) (hs : s.length ≤ 140737488351232) : Calls Tryz.prog 17 #[.string ⟨s.toArray⟩] w fun e w' => e = .returned (.bool (nmB s)) ∧ Below w.heap.size w w' := by
  have hsz := bs_size s
  cases s with
  | nil =>
    go_enter Tryz.func17, Tryz.ntmps17
    go_wp2
    go_ret
    exact ⟨rfl, Below.refl _ _⟩
  | cons b t =>
    have hne : ((b :: t) == ([] : By)) = false := rfl
    by_cases hl : 32 < (b :: t).length
    · have HK : Hid (nmB (b :: t) = false) := by
        unfold Hid nmB
        have : decide ((b :: t).length ≤ 32) = false := by simp at hl ⊢; omega
        rw [this]; simp
      have hl' : (32 : Int) < ((b :: t).length : Int) := by omega
      generalize b :: t = s at *
      go_enter Tryz.func17, Tryz.ntmps17
      go_wp2
      go_ret
      exact ⟨by rw [HK.out]; rfl, Below.refl _ _⟩
    · have HK : Hid (nmB (b :: t) = (!wdB (b :: t) && smB (b.toNat : Int) && allGo 2 (b :: t))) := by
        unfold Hid nmB
        have : decide ((b :: t).length ≤ 32) = true := by simp at hl ⊢; omega
        rw [this]; simp [fsB, bI]
      have hl' : ¬ (32 : Int) < ((b :: t).length : Int) := by omega
      have H1 := hide (fun W => smallD_any (b.toNat : Int) W)
      have H2 := hide (fun W => isWordD_any (b :: t) W)
      have H3 : Hid (∀ W, Calls Tryz.prog 31 #[.int .i64 1, .string ⟨(b :: t).toArray⟩, .int .i64 0] W fun e w' => (∃ j : Nat, e = .returned (.int .i64 (j : Nat)) ∧ IsRun 2 (b :: t) 0 j) ∧ w' = W) := fun W => run_any 1 (.inl rfl) (b :: t) 0 (by omega) hs W
      have hgt : ∀ hk, (⟨(b :: t).toArray⟩ : ByteArray)[0]'hk = b := fun _ => rfl
      have hpos : (0 : Int) < ((b :: t).length : Int) := by simp
      generalize b :: t = s at *
      generalize smB (b.toNat : Int) = b1 at *
      generalize wdB s = b2 at *
      cases b1 with
      | false =>
        have HK2 : Hid (nmB s = false) := by unfold Hid; rw [HK.out]; simp
        clear HK
        cases b2
        all_goals
          go_enter Tryz.func17, Tryz.ntmps17
          go_wp2_with (first | (go_at_call 30; refine (H1.out _).mono ?_; rintro e wz ⟨rfl, hwz⟩; have hwz := hwz.symm; subst hwz) | (go_at_call 15; refine (H2.out _).mono ?_; rintro e w2 ⟨rfl, x2⟩; have X2 := hide x2; clear x2))
          go_ret
          exact ⟨by rw [HK2.out]; rfl, X2.out⟩
      | true =>
        cases b2 with
        | true =>
          have HK2 : Hid (nmB s = false) := by unfold Hid; rw [HK.out]; simp
          clear HK
          go_enter Tryz.func17, Tryz.ntmps17
          go_wp2_with (first | (go_at_call 30; refine (H1.out _).mono ?_; rintro e wz ⟨rfl, hwz⟩; have hwz := hwz.symm; subst hwz) | (go_at_call 15; refine (H2.out _).mono ?_; rintro e w2 ⟨rfl, x2⟩; have X2 := hide x2; clear x2))
          go_ret
          exact ⟨by rw [HK2.out]; rfl, X2.out⟩
        | false =>
          have HK2 : Hid (nmB s = allGo 2 s) := by unfold Hid; rw [HK.out]; simp
          clear HK
          go_enter Tryz.func17, Tryz.ntmps17
          go_wp2_with (first | (go_at_call 30; refine (H1.out _).mono ?_; rintro e wz ⟨rfl, hwz⟩; have hwz := hwz.symm; subst hwz) | (go_at_call 15; refine (H2.out _).mono ?_; rintro e w2 ⟨rfl, x2⟩; have X2 := hide x2; clear x2) | (go_at_call 31; refine (H3.out _).mono ?_; rintro e wz ⟨⟨j, rfl, hj⟩, hwz⟩; have HJ := hide (nm_run hj); have hwz := hwz.symm; subst hwz; clear hj))
          go_ret
          refine ⟨?_, X2.out⟩
          rw [HK2.out, ← HJ.out]
          by_cases e : j = s.length
          · subst e; simp
          · have e' : ¬ (j : Int) = (s.length : Int) := by omega
            simp [e, e']
end Go.Proofs.YtkpdbbbeagnjpaaGreatDoor
