/-
  Where a source is wrong, told of Scan. Pure. No condition.
-/
import Derived.Test.YtkpdbbbeagnjpaaDoorMFl
namespace Go.Proofs.YtkpdbbbeagnjpaaDoor
open Go.RowKit Go.Lib

theorem fall_at (s : By) : ∀ (k i : Nat), i + k = s.length → ∀ x, InF s i x → (∃ y, foldQ s 0 x0 s = (0, y) ∧ InF s s.length y) ∨ ∃ j c y, j < s.length ∧ foldQ s 0 x0 s = (c, y) ∧ Fl s j c y
  | 0, i, hk, x, h => by
    obtain rfl : i = s.length := by omega
    refine .inl ⟨x, ?_, h⟩
    have := h.st
    rwa [List.take_length] at this
  | k + 1, i, hk, x, h => by
    have hi : i < s.length := by omega
    rcases inF_step hi h with ⟨y, hy, hI⟩ | ⟨c, y, hy, hF⟩
    · exact fall_at s k (i + 1) (by omega) y hI
    · exact .inr ⟨i, c, y, hi, fold_fail hi h.st hy hF.c0.1, hF⟩
theorem fall (s : By) : (∃ y, foldQ s 0 x0 s = (0, y) ∧ InF s s.length y) ∨ ∃ j c y, j < s.length ∧ foldQ s 0 x0 s = (c, y) ∧ Fl s j c y := fall_at s s.length 0 (by omega) x0 (InF.start s)
theorem faults {s : By} (hl : s.length ≤ 8000) {c n : Int} (h : scanQ s = .error (c, n)) : ∃ j y, y.fr = n ∧ Fl s j c y ∧ n < s.length ∧ j ≤ s.length := by
  rcases fall s with ⟨y, hy, hI⟩ | ⟨j, c', y, hj, hy, hF⟩
  · rw [scan_foldQ hl hy, if_neg (by show ¬ ((0 : Int) ≠ 0); decide)] at h
    obtain ⟨hst, hf0, hbig, hrun⟩ := hI
    rcases end_cases s y with ⟨h1, h2⟩ | ⟨_, _, h2⟩ | ⟨h1, h2, h3⟩ | ⟨_, h2⟩
    · obtain ⟨g1, g2⟩ := hbig (by omega) (by omega)
      simp only [h2] at h
      rw [if_pos (by decide)] at h
      obtain ⟨rfl, rfl⟩ := Prod.mk.inj (Except.error.inj h)
      exact ⟨s.length, y, rfl, ⟨hf0, by omega, g2, by decide, fun h => absurd rfl h, fun h => absurd rfl h⟩, g1, Nat.le_refl _⟩
    · rw [if_neg (by simp only [h2]; decide)] at h
      cases h
    · obtain ⟨g1, g2⟩ := hbig (by omega) (by omega)
      obtain ⟨c', hc, hcx⟩ := endAny_fail s y s.length h2
      rw [h3, hcx] at h
      simp only at h
      rw [if_pos (by omega)] at h
      obtain ⟨rfl, rfl⟩ := Prod.mk.inj (Except.error.inj h)
      refine ⟨s.length, y, rfl, ⟨hf0, by omega, g2, by omega, fun _ b hb => not_blank (hrun h1 b hb), fun _ s' ht hi' hb => ?_⟩, g1, Nat.le_refl _⟩
      rcases hb with ⟨hb, _⟩ | ⟨hb, _⟩
      · omega
      · refine fold_fail hi' (x := y) ?_ ?_ (by show c' ≠ 0; omega)
        · rw [ht, ← hst]
          exact foldQ_loc _ 0 _ (by simp only [List.length_take]; exact take_mono ht (by omega))
        · rw [hb, stepQ_loc ht]
          rcases step_cases s y s.length (bI 32) with ⟨e1, _⟩ | ⟨e1, _⟩ | ⟨e1, _⟩ | ⟨_, e1, _⟩ | ⟨_, e1, _⟩ | ⟨_, _, _, e1⟩ | ⟨e1, _⟩
          · omega
          · omega
          · omega
          · exact absurd e1 (go_blank _)
          · exact absurd e1 h2
          · rw [e1, hcx]
          · omega
    · rw [if_neg (by simp only [h2]; decide)] at h
      cases h
  · have hc0 := hF.c0.1
    rw [scan_foldQ hl hy, if_pos hc0] at h
    simp only at h
    obtain ⟨rfl, rfl⟩ := Prod.mk.inj (Except.error.inj h)
    exact ⟨j, y, rfl, hF, by have := hF.f1; omega, by omega⟩
/-- What stands ahead of the fault is right. -/
theorem scan_ahead {s : By} (hl : s.length ≤ 8000) {c n : Int} (h : scanQ s = .error (c, n)) : (c ≠ 0 ∧ c ≠ 84) ∧ 0 ≤ n ∧ n < s.length ∧ ∃ L, scanQ (s.take n.toNat) = .ok L := by
  obtain ⟨j, y, rfl, hF, hn, hj⟩ := faults hl h
  refine ⟨hF.c0, hF.f0, hn, ?_⟩
  obtain ⟨x, h1, h2⟩ := hF.good
  have hlt : (s.take y.fr.toNat).length ≤ 8000 := by simp; omega
  have hf : foldQ (s.take y.fr.toNat) 0 x0 (s.take y.fr.toNat) = (0, x) := by
    rw [← h1]
    refine foldQ_loc _ 0 _ ?_
    rw [Nat.zero_add, List.take_length, List.length_take, Nat.min_eq_left (by omega)]
  rw [scan_foldQ hlt hf, if_neg (by show ¬ ((0 : Int) ≠ 0); decide), if_neg (by simp only [h2]; decide)]
  exact ⟨_, rfl⟩
/-- What stands behind the next blank changes nothing. -/
theorem scan_behind {s : By} (hl : s.length ≤ 8000) {c n : Int} (h : scanQ s = .error (c, n)) (hc : c ≠ 83) {m : Nat} (h1 : n < m) (h2 : m ≤ s.length) (h3 : m = s.length ∨ ∃ hm : m < s.length, s[m] = 32 ∨ s[m] = 10) (more : By) (h4 : (s.take m ++ 32 :: more).length ≤ 8000) : scanQ (s.take m ++ 32 :: more) = .error (c, n) := by
  obtain ⟨j, y, rfl, hF, hn, hj⟩ := faults hl h
  have hf0 := hF.f0
  have hf1 := hF.f1
  have hjm : j ≤ m := by
    rcases Nat.lt_or_ge m j with hlt | hge
    · rcases h3 with h3 | ⟨hm, h3⟩
      · omega
      · have hmem : s[m] ∈ cutB s y.fr.toNat j := by
          unfold cutB
          refine List.mem_iff_getElem.2 ⟨m - y.fr.toNat, by simp; omega, ?_⟩
          rw [List.getElem_drop, List.getElem_take]
          congr 1
          omega
        obtain ⟨b1, b2⟩ := hF.run hc _ hmem
        rcases h3 with h3 | h3
        · exact absurd h3 b1
        · exact absurd h3 b2
    · exact hge
  have hlm : (s.take m).length = m := by simp; omega
  have ht : (s.take m ++ 32 :: more).take j = s.take j := by
    rw [List.take_append_of_le_length (by omega), List.take_take, Nat.min_eq_left hjm]
  have hi' : j < (s.take m ++ 32 :: more).length := by simp; omega
  have hfold : foldQ (s.take m ++ 32 :: more) 0 x0 (s.take m ++ 32 :: more) = (c, y) := by
    refine hF.loc hc _ ht hi' ?_
    rcases Nat.lt_or_ge j m with hlt | hge
    · refine .inl ⟨by omega, ?_⟩
      rw [List.getElem_append_left (by omega), List.getElem_take]
    · obtain rfl : j = m := by omega
      refine .inr ⟨?_, by omega⟩
      rw [List.getElem_append_right (by omega)]
      simp [hlm]
  rw [scan_foldQ h4 hfold, if_pos hF.c0.1]
end Go.Proofs.YtkpdbbbeagnjpaaDoor
