/-
  Where a source is wrong: what stands ahead is right, and what stands behind the next blank changes nothing. Pure. No condition.
-/
import Derived.Test.YtkpdbbbeagnjpaaGreatDoorQ26
namespace Go.Proofs.YtkpdbbbeagnjpaaGreatDoor
open Go.RowKit Go.Lib

theorem foldQ_append (s : By) : ∀ (a b : By) (i : Nat) (x : SS), foldQ s i x (a ++ b) = if (foldQ s i x a).1 = 0 then foldQ s (i + a.length) (foldQ s i x a).2 b else foldQ s i x a
  | [], b, i, x => by simp [foldQ]
  | c :: a, b, i, x => by
    rw [List.cons_append, foldQ, foldQ]
    by_cases h : (stepQ s x i (bI c)).1 = 0
    · rw [if_pos h, if_pos h, foldQ_append s a b (i + 1)]
      rw [List.length_cons, show i + 1 + a.length = i + (a.length + 1) by omega]
    · rw [if_neg h, if_neg h, if_neg h]
/-- The run that ends at a place, of whatever kind. -/
def endAny (s : By) (x : SS) (q : Nat) : Int × SS := if x.st = 4 then endDigP x (cutB s x.fr.toNat q) else endRunP s x q
theorem cut_loc {s s' : By} {q : Nat} (h : s.take q = s'.take q) (f : Nat) : cutB s f q = cutB s' f q := by unfold cutB; rw [h]
theorem endAny_loc {s s' : By} {q : Nat} (h : s.take q = s'.take q) (x : SS) : endAny s x q = endAny s' x q := by
  unfold endAny endRunP
  rw [Int.toNat_natCast, cut_loc h]
theorem stepQ_loc {s s' : By} {q : Nat} (h : s.take q = s'.take q) (x : SS) (r : Int) : stepQ s x q r = stepQ s' x q r := by
  unfold stepQ stepP endRunP
  simp only [Int.toNat_natCast, cut_loc h]
theorem take_mono {s s' : By} {n : Nat} (h : s.take n = s'.take n) {m : Nat} (hm : m ≤ n) : s.take m = s'.take m := by
  have := congrArg (List.take m) h
  rwa [List.take_take, List.take_take, Nat.min_eq_left hm] at this
theorem foldQ_loc {s s' : By} : ∀ (a : By) (i : Nat) (x : SS), s.take (i + a.length) = s'.take (i + a.length) → foldQ s i x a = foldQ s' i x a
  | [], i, x, _ => rfl
  | c :: a, i, x, h => by
    rw [List.length_cons] at h
    have e := foldQ_loc (s := s) (s' := s') a (i + 1) (stepQ s' x i (bI c)).2 (by rw [show i + 1 + a.length = i + (a.length + 1) by omega]; exact h)
    rw [foldQ, foldQ, stepQ_loc (take_mono h (by omega)), e]
theorem endRun_fail (s : By) (x : SS) (q : Int) (h : (endRunP s x q).1 ≠ 0) : endRunP s x q = (82, x) := by
  unfold endRunP endLettersP at *
  split
  · rename_i h2
    rw [if_pos h2] at h
    split
    · rfl
    · rename_i h3
      rw [if_neg h3] at h
      exact absurd rfl h
  · rename_i h2
    rw [if_neg h2] at h
    split
    · rfl
    · rename_i h3
      rw [if_neg h3] at h
      exact absurd rfl h
theorem endAny_fail (s : By) (x : SS) (q : Nat) (h : (endAny s x q).1 ≠ 0) : ∃ c : Int, (c = 81 ∨ c = 82) ∧ endAny s x q = (c, x) := by
  unfold endAny at *
  split
  · rename_i h4
    rw [if_pos h4] at h
    rcases endDig_tk x (cutB s x.fr.toNat q) with ⟨e, _⟩ | e
    · exact absurd e h
    · exact ⟨81, .inl rfl, e⟩
  · rename_i h4
    rw [if_neg h4] at h
    exact ⟨82, .inr rfl, endRun_fail s x q h⟩
/-- How a step goes. -/
theorem step_cases (s : By) (x : SS) (i : Nat) (r : Int) :
    (x.st = 1 ∧ stepQ s x i r = (0, if r = 10 then { x with st := 0 } else x)) ∨
    (x.st = 5 ∧ stepQ s x i r = stepTextP x r) ∨ (x.st = 6 ∧ stepQ s x i r = stepEscP x r) ∨
    ((x.st = 2 ∨ x.st = 3 ∨ x.st = 4) ∧ goB x.st r = true ∧ stepQ s x i r = (0, x)) ∨
    ((x.st = 2 ∨ x.st = 3 ∨ x.st = 4) ∧ (endAny s x i).1 = 0 ∧ stepQ s x i r = beginP (endAny s x i).2 i r) ∨
    ((x.st = 2 ∨ x.st = 3 ∨ x.st = 4) ∧ goB x.st r ≠ true ∧ (endAny s x i).1 ≠ 0 ∧ stepQ s x i r = endAny s x i) ∨
    (¬ (1 ≤ x.st ∧ x.st ≤ 6) ∧ stepQ s x i r = beginP x i r) := by
  unfold stepQ stepP endAny
  rw [Int.toNat_natCast]
  by_cases h4 : x.st = 4
  · rw [if_pos h4, if_pos h4]
    by_cases hg : goB 4 r = true
    · exact .inr (.inr (.inr (.inl ⟨.inr (.inr h4), by rw [h4]; exact hg, if_pos hg⟩)))
    · rw [if_neg hg]
      by_cases he : (endDigP x (cutB s x.fr.toNat i)).1 = 0
      · exact .inr (.inr (.inr (.inr (.inl ⟨.inr (.inr h4), he, if_pos he⟩))))
      · exact .inr (.inr (.inr (.inr (.inr (.inl ⟨.inr (.inr h4), by rw [h4]; exact hg, he, if_neg he⟩)))))
  · rw [if_neg h4, if_neg h4]
    by_cases h1 : x.st = 1
    · exact .inl ⟨h1, if_pos h1⟩
    · rw [if_neg h1]
      by_cases h5 : x.st = 5
      · exact .inr (.inl ⟨h5, if_pos h5⟩)
      · rw [if_neg h5]
        by_cases h6 : x.st = 6
        · exact .inr (.inr (.inl ⟨h6, if_pos h6⟩))
        · rw [if_neg h6]
          by_cases h23 : x.st = 2 ∨ x.st = 3
          · have h23' : x.st = 2 ∨ x.st = 3 ∨ x.st = 4 := by omega
            rw [if_pos h23]
            by_cases hg : goB x.st r = true
            · exact .inr (.inr (.inr (.inl ⟨h23', hg, if_pos hg⟩)))
            · rw [if_neg hg]
              by_cases he : (endRunP s x i).1 = 0
              · exact .inr (.inr (.inr (.inr (.inl ⟨h23', he, if_pos he⟩))))
              · exact .inr (.inr (.inr (.inr (.inr (.inl ⟨h23', hg, he, if_neg he⟩)))))
          · rw [if_neg h23]
            exact .inr (.inr (.inr (.inr (.inr (.inr ⟨by omega, rfl⟩)))))
/-- How the end goes. -/
theorem end_cases (s : By) (x : SS) :
    ((x.st = 5 ∨ x.st = 6) ∧ endQ s x = (83, x)) ∨
    ((x.st = 2 ∨ x.st = 3 ∨ x.st = 4) ∧ (endAny s x s.length).1 = 0 ∧ (endQ s x).1 = 0) ∨
    ((x.st = 2 ∨ x.st = 3 ∨ x.st = 4) ∧ (endAny s x s.length).1 ≠ 0 ∧ endQ s x = endAny s x s.length) ∨
    (¬ (2 ≤ x.st ∧ x.st ≤ 6) ∧ (endQ s x).1 = 0) := by
  unfold endQ endP endAny
  by_cases h4 : x.st = 4
  · rw [if_pos h4, if_pos h4]
    by_cases he : (endDigP x (cutB s x.fr.toNat s.length)).1 = 0
    · exact .inr (.inl ⟨.inr (.inr h4), he, by rw [if_pos he]⟩)
    · exact .inr (.inr (.inl ⟨.inr (.inr h4), he, if_neg he⟩))
  · rw [if_neg h4, if_neg h4]
    by_cases h56 : x.st = 5 ∨ x.st = 6
    · exact .inl ⟨h56, if_pos h56⟩
    · rw [if_neg h56]
      by_cases h23 : x.st = 2 ∨ x.st = 3
      · have h23' : x.st = 2 ∨ x.st = 3 ∨ x.st = 4 := by omega
        rw [if_pos h23]
        by_cases he : (endRunP s x s.length).1 = 0
        · exact .inr (.inl ⟨h23', he, by rw [if_pos he]⟩)
        · exact .inr (.inr (.inl ⟨h23', he, if_neg he⟩))
      · rw [if_neg h23]
        exact .inr (.inr (.inr ⟨by omega, rfl⟩))
/-- How a begin goes. -/
theorem begin_cases (y : SS) (q r : Int) : (beginP y q r).2.fr = q ∧ ((beginP y q r).1 = 80 ∨ (beginP y q r).1 = 0 ∧ ((beginP y q r).2.st = 0 ∨ (beginP y q r).2.st = 1 ∨ (beginP y q r).2.st = 5 ∨ ((beginP y q r).2.st = 2 ∨ (beginP y q r).2.st = 3 ∨ (beginP y q r).2.st = 4) ∧ goB (beginP y q r).2.st r = true)) := by
  unfold beginP
  split
  · exact ⟨rfl, .inr ⟨rfl, .inl rfl⟩⟩
  · split
    · exact ⟨rfl, .inr ⟨rfl, .inr (.inl rfl)⟩⟩
    · split
      · rename_i h
        exact ⟨rfl, .inr ⟨rfl, .inr (.inr (.inr ⟨.inl rfl, sm_go h⟩))⟩⟩
      · split
        · rename_i h
          exact ⟨rfl, .inr ⟨rfl, .inr (.inr (.inr ⟨.inr (.inl rfl), by show goB 3 r = true; unfold goB; rw [if_neg (by decide), if_pos rfl]; exact h⟩))⟩⟩
        · split
          · rename_i h
            exact ⟨rfl, .inr ⟨rfl, .inr (.inr (.inr ⟨.inr (.inr rfl), by show goB 4 r = true; unfold goB; rw [if_neg (by decide), if_neg (by decide), h]; simp⟩))⟩⟩
          · split
            · exact ⟨rfl, .inr ⟨rfl, .inr (.inr (.inl rfl))⟩⟩
            · split
              · exact ⟨rfl, .inr ⟨rfl, .inl rfl⟩⟩
              · exact ⟨rfl, .inl rfl⟩
/-- What stands ahead of a place is right. -/
def Good (s : By) (f : Nat) : Prop := ∃ x, foldQ s 0 x0 (s.take f) = (0, x) ∧ (endQ (s.take f) x).1 = 0
structure InF (s : By) (i : Nat) (x : SS) : Prop where
  st : foldQ s 0 x0 (s.take i) = (0, x)
  f0 : 0 ≤ x.fr
  big : 2 ≤ x.st → x.st ≤ 6 → x.fr < i ∧ Good s x.fr.toNat
  run : x.st = 2 ∨ x.st = 3 ∨ x.st = 4 → ∀ c ∈ cutB s x.fr.toNat i, goB x.st (bI c) = true
/-- Where it falls. -/
structure Fl (s : By) (i : Nat) (c : Int) (y : SS) : Prop where
  f0 : 0 ≤ y.fr
  f1 : y.fr ≤ i
  good : Good s y.fr.toNat
  c0 : c ≠ 0 ∧ c ≠ 84
  run : c ≠ 83 → ∀ b ∈ cutB s y.fr.toNat i, b ≠ 32 ∧ b ≠ 10
  loc : c ≠ 83 → ∀ s' : By, s'.take i = s.take i → ∀ hi : i < s'.length, ((∃ h : i < s.length, s'[i] = s[i]) ∨ (s'[i] = 32 ∧ y.fr < i)) → foldQ s' 0 x0 s' = (c, y)
theorem fold_fail {s : By} {i : Nat} (hi : i < s.length) {x : SS} (h : foldQ s 0 x0 (s.take i) = (0, x)) {y : Int × SS} (hy : stepQ s x i (bI s[i]) = y) (hn : y.1 ≠ 0) : foldQ s 0 x0 s = y := by
  have e : s = s.take i ++ s[i] :: s.drop (i + 1) := by rw [← List.drop_eq_getElem_cons hi, List.take_append_drop]
  have hl : (s.take i).length = i := by simp; omega
  have := foldQ_append s (s.take i) (s[i] :: s.drop (i + 1)) 0 x0
  rw [← e, h, if_pos rfl, hl, Nat.zero_add, foldQ, hy, if_neg hn] at this
  exact this
theorem fold_next {s : By} {i : Nat} (hi : i < s.length) {x : SS} (h : foldQ s 0 x0 (s.take i) = (0, x)) {y : SS} (hy : stepQ s x i (bI s[i]) = (0, y)) : foldQ s 0 x0 (s.take (i + 1)) = (0, y) := by
  have e : s.take (i + 1) = s.take i ++ [s[i]] := by rw [List.take_add_one, List.getElem?_eq_getElem hi]; rfl
  have hl : (s.take i).length = i := by simp; omega
  rw [e, foldQ_append, h, if_pos rfl, hl, Nat.zero_add, foldQ, hy, if_pos rfl, foldQ]
theorem good_of {s : By} {i : Nat} (hi : i ≤ s.length) {x : SS} (h : foldQ s 0 x0 (s.take i) = (0, x)) (he : (x.st = 2 ∨ x.st = 3 ∨ x.st = 4) ∧ (endAny s x i).1 = 0 ∨ ¬ (2 ≤ x.st ∧ x.st ≤ 6)) : Good s i := by
  refine ⟨x, h, ?_⟩
  have hl : (s.take i).length = i := by simp; omega
  have hloc : endAny (s.take i) x i = endAny s x i := endAny_loc (by rw [List.take_take, Nat.min_self]) x
  rcases end_cases (s.take i) x with ⟨h1, h2⟩ | ⟨h1, h2, h3⟩ | ⟨h1, h2, h3⟩ | ⟨h1, h2⟩
  · rcases he with ⟨h4, _⟩ | h4
    · omega
    · omega
  · exact h3
  · rw [hl, hloc] at h2
    rcases he with ⟨_, h4⟩ | h4
    · exact absurd h4 h2
    · omega
  · exact h2
theorem not_blank {k : Int} {b : UInt8} (h : goB k (bI b) = true) : b ≠ 32 ∧ b ≠ 10 := by
  constructor
  · rintro rfl
    revert h
    unfold goB
    split
    · decide
    · split
      · decide
      · decide
  · rintro rfl
    revert h
    unfold goB
    split
    · decide
    · split
      · decide
      · decide
theorem go_blank (k : Int) : goB k (bI 32) ≠ true := fun h => (not_blank h).1 rfl
theorem InF.start (s : By) : InF s 0 x0 := ⟨rfl, by decide, fun h _ => absurd h (by decide), fun h => absurd h (by decide)⟩
/-- One byte on, or it falls. -/
theorem inF_step {s : By} {i : Nat} (hi : i < s.length) {x : SS} (h : InF s i x) :
    (∃ y, stepQ s x i (bI s[i]) = (0, y) ∧ InF s (i + 1) y) ∨ ∃ c y, stepQ s x i (bI s[i]) = (c, y) ∧ Fl s i c y := by
  obtain ⟨hst, hf0, hbig, hrun⟩ := h
  have hloc1 : ∀ {c : Int} {y : SS}, stepQ s x i (bI s[i]) = (c, y) → c ≠ 0 → ∀ s' : By, s'.take i = s.take i → ∀ hi' : i < s'.length, s'[i] = s[i] → foldQ s' 0 x0 s' = (c, y) := fun {c y} hy hc s' ht hi' hb => by
    refine fold_fail hi' (x := x) ?_ ?_ hc
    · rw [ht, ← hst]
      exact foldQ_loc _ 0 _ (by simp only [List.length_take]; exact take_mono ht (by omega))
    · rw [hb, stepQ_loc ht, hy]
  have hbeg : ∀ y, stepQ s x i (bI s[i]) = beginP y i (bI s[i]) → Good s i → (∃ y, stepQ s x i (bI s[i]) = (0, y) ∧ InF s (i + 1) y) ∨ ∃ c y, stepQ s x i (bI s[i]) = (c, y) ∧ Fl s i c y := fun y hy hg => by
    obtain ⟨b1, b2⟩ := begin_cases y i (bI s[i])
    rw [← hy] at b1 b2
    generalize hz : stepQ s x i (bI s[i]) = z at *
    obtain ⟨c, z⟩ := z
    simp only at b1 b2
    rcases b2 with rfl | ⟨rfl, b2⟩
    · refine .inr ⟨80, z, rfl, by omega, by omega, by rw [b1]; exact hg, by decide, fun _ b hb => ?_, fun _ s' ht hi' hb => ?_⟩
      · rw [b1, Int.toNat_natCast, cut_self] at hb
        cases hb
      · rcases hb with ⟨_, hb⟩ | ⟨_, hb⟩
        · exact hloc1 rfl (by decide) s' ht hi' hb
        · omega
    · refine .inl ⟨z, rfl, fold_next hi hst hz, by omega, fun _ _ => ⟨by omega, by rw [b1]; exact hg⟩, fun hr c hc => ?_⟩
      rw [b1, Int.toNat_natCast, cut_one s hi] at hc
      have : c = s[i] := by simpa using hc
      rw [this]
      rcases b2 with b2 | b2 | b2 | ⟨_, b2⟩
      · omega
      · omega
      · omega
      · exact b2
  have hmean : ∀ (x' : SS), x'.fr = x.fr → x'.st = 5 → 2 ≤ x.st → x.st ≤ 6 → stepQ s x i (bI s[i]) = meanP x' (bI s[i]) → (∃ y, stepQ s x i (bI s[i]) = (0, y) ∧ InF s (i + 1) y) ∨ ∃ c y, stepQ s x i (bI s[i]) = (c, y) ∧ Fl s i c y := fun x' hfr h5 g1 g2 hy => by
    obtain ⟨g3, g4⟩ := hbig g1 g2
    unfold meanP at hy
    split at hy
    · refine .inl ⟨_, hy, fold_next hi hst hy, by show 0 ≤ x'.fr; omega, fun _ _ => ⟨by show x'.fr < ((i + 1 : Nat) : Int); omega, by show Good s x'.fr.toNat; rw [hfr]; exact g4⟩, fun hr => ?_⟩
      have hr : x'.st = 2 ∨ x'.st = 3 ∨ x'.st = 4 := hr
      omega
    · exact .inr ⟨83, _, hy, by omega, by omega, by rw [hfr]; exact g4, by decide, fun h => absurd rfl h, fun h => absurd rfl h⟩
  rcases step_cases s x i (bI s[i]) with ⟨e, hy⟩ | ⟨e, hy⟩ | ⟨e, hy⟩ | ⟨e, hg, hy⟩ | ⟨e, he, hy⟩ | ⟨e, hg, he, hy⟩ | ⟨e, hy⟩
  · refine .inl ⟨_, hy, fold_next hi hst hy, ?_, fun h1 _ => ?_, fun h1 => ?_⟩
    · split
      · exact hf0
      · exact hf0
    · split at h1
      · exact absurd h1 (by show ¬ (2 : Int) ≤ 0; decide)
      · omega
    · split at h1
      · rcases h1 with h1 | h1 | h1 <;> cases h1
      · omega
  · obtain ⟨g3, g4⟩ := hbig (by omega) (by omega)
    unfold stepTextP at hy
    split at hy
    · exact .inl ⟨_, hy, fold_next hi hst hy, hf0, fun h1 _ => absurd h1 (by show ¬ (2 : Int) ≤ 0; decide), fun h1 => by rcases h1 with h1 | h1 | h1 <;> cases h1⟩
    · split at hy
      · exact .inl ⟨_, hy, fold_next hi hst hy, hf0, fun _ _ => ⟨by show x.fr < ((i + 1 : Nat) : Int); omega, g4⟩, fun h1 => by rcases h1 with h1 | h1 | h1 <;> cases h1⟩
      · exact hmean x rfl e (by omega) (by omega) hy
  · obtain ⟨g3, g4⟩ := hbig (by omega) (by omega)
    unfold stepEscP at hy
    split at hy
    · exact hmean { x with st := 5 } rfl rfl (by omega) (by omega) hy
    · exact .inr ⟨83, _, hy, by omega, by omega, g4, by decide, fun h => absurd rfl h, fun h => absurd rfl h⟩
  · obtain ⟨g3, g4⟩ := hbig (by omega) (by omega)
    refine .inl ⟨_, hy, fold_next hi hst hy, hf0, fun _ _ => ⟨by omega, g4⟩, fun hr c hc => ?_⟩
    rw [cut_snoc s (by have : x.fr.toNat ≤ i := (by omega); exact this) hi] at hc
    rcases List.mem_append.1 hc with hc | hc
    · exact hrun hr c hc
    · have : c = s[i] := by simpa using hc
      rw [this]
      exact hg
  · exact hbeg _ hy (good_of (by omega) hst (.inl ⟨e, he⟩))
  · obtain ⟨g3, g4⟩ := hbig (by omega) (by omega)
    obtain ⟨c, hc, hcx⟩ := endAny_fail s x i he
    rw [hcx] at hy
    refine .inr ⟨c, x, hy, hf0, by omega, g4, by omega, fun _ b hb => not_blank (hrun e b hb), fun _ s' ht hi' hb => ?_⟩
    rcases hb with ⟨_, hb⟩ | ⟨hb, _⟩
    · exact hloc1 hy (by omega) s' ht hi' hb
    · refine fold_fail hi' (x := x) ?_ ?_ (by show c ≠ 0; omega)
      · rw [ht, ← hst]
        exact foldQ_loc _ 0 _ (by simp only [List.length_take]; exact take_mono ht (by omega))
      · rw [hb, stepQ_loc ht]
        rcases step_cases s x i (bI 32) with ⟨e1, _⟩ | ⟨e1, _⟩ | ⟨e1, _⟩ | ⟨_, e1, _⟩ | ⟨_, e1, _⟩ | ⟨_, _, _, e1⟩ | ⟨e1, _⟩
        · omega
        · omega
        · omega
        · exact absurd e1 (go_blank _)
        · exact absurd e1 he
        · rw [e1, hcx]
        · omega
  · exact hbeg _ hy (good_of (by omega) hst (.inr (by omega)))
end Go.Proofs.YtkpdbbbeagnjpaaGreatDoor
