/-
  Where a source is wrong: what stands ahead is right, and what stands behind the next blank changes nothing. Pure. No condition.
-/
import Derived.Test.YtlmhofjiobmodaaGreatDoorQ40
namespace Go.Proofs.YtlmhofjiobmodaaGreatDoor
open Go.RowKit Go.Lib

theorem foldQ_append (s : By) : ∀ (a b : By) (i : Nat) (x : SS), foldQ s i x (a ++ b) = if (foldQ s i x a).1 = 0 then foldQ s (i + a.length) (foldQ s i x a).2 b else foldQ s i x a
  | [], b, i, x => by simp [foldQ]
  | c :: a, b, i, x => by
    rw [List.cons_append, foldQ, foldQ]
    by_cases h : (stepQ s x i (bI c)).1 = 0
    · rw [if_pos h, if_pos h, foldQ_append s a b (i + 1)]
      rw [List.length_cons, show i + 1 + a.length = i + (a.length + 1) by omega]
    · rw [if_neg h, if_neg h, if_neg h]
/-- The run that ends at a place, of whatever kind. -/
def endAny (s : By) (x : SS) (q : Nat) : Int × SS := if x.st = 4 then endDigP x (cutB s x.fr.toNat q) else endRunP s x q
theorem cut_loc {s s' : By} {q : Nat} (h : s.take q = s'.take q) (f : Nat) : cutB s f q = cutB s' f q := by unfold cutB; rw [h]
theorem endAny_loc {s s' : By} {q : Nat} (h : s.take q = s'.take q) (x : SS) : endAny s x q = endAny s' x q := by
  unfold endAny endRunP
  rw [Int.toNat_natCast, cut_loc h]
theorem stepQ_loc {s s' : By} {q : Nat} (h : s.take q = s'.take q) (x : SS) (r : Int) : stepQ s x q r = stepQ s' x q r := by
  unfold stepQ stepP endRunP
  simp only [Int.toNat_natCast, cut_loc h]
theorem take_mono {s s' : By} {n : Nat} (h : s.take n = s'.take n) {m : Nat} (hm : m ≤ n) : s.take m = s'.take m := by
  have := congrArg (List.take m) h
  rwa [List.take_take, List.take_take, Nat.min_eq_left hm] at this
theorem foldQ_loc {s s' : By} : ∀ (a : By) (i : Nat) (x : SS), s.take (i + a.length) = s'.take (i + a.length) → foldQ s i x a = foldQ s' i x a
  | [], i, x, _ => rfl
  | c :: a, i, x, h => by
    rw [List.length_cons] at h
    have e := foldQ_loc (s := s) (s' := s') a (i + 1) (stepQ s' x i (bI c)).2 (by rw [show i + 1 + a.length = i + (a.length + 1) by omega]; exact h)
    rw [foldQ, foldQ, stepQ_loc (take_mono h (by omega)), e]
theorem endRun_fail (s : By) (x : SS) (q : Int) (h : (endRunP s x q).1 ≠ 0) : endRunP s x q = (82, x) := by
  unfold endRunP endLettersP at *
  split
  · rename_i h2
    rw [if_pos h2] at h
    split
    · rfl
    · rename_i h3
      rw [if_neg h3] at h
      exact absurd rfl h
  · rename_i h2
    rw [if_neg h2] at h
    split
    · rfl
    · rename_i h3
      rw [if_neg h3] at h
      exact absurd rfl h
theorem endAny_fail (s : By) (x : SS) (q : Nat) (h : (endAny s x q).1 ≠ 0) : ∃ c : Int, (c = 81 ∨ c = 82) ∧ endAny s x q = (c, x) := by
  unfold endAny at *
  split
  · rename_i h4
    rw [if_pos h4] at h
    rcases endDig_tk x (cutB s x.fr.toNat q) with ⟨e, _⟩ | e
    · exact absurd e h
    · exact ⟨81, .inl rfl, e⟩
  · rename_i h4
    rw [if_neg h4] at h
    exact ⟨82, .inr rfl, endRun_fail s x q h⟩
/-- How a step goes. -/
theorem step_cases (s : By) (x : SS) (i : Nat) (r : Int) :
    (x.st = 1 ∧ stepQ s x i r = (0, if r = 10 then { x with st := 0 } else x)) ∨
    (x.st = 5 ∧ stepQ s x i r = stepTextP x r) ∨ (x.st = 6 ∧ stepQ s x i r = stepEscP x r) ∨
    ((x.st = 2 ∨ x.st = 3 ∨ x.st = 4) ∧ goB x.st r = true ∧ stepQ s x i r = (0, x)) ∨
    ((x.st = 2 ∨ x.st = 3 ∨ x.st = 4) ∧ (endAny s x i).1 = 0 ∧ stepQ s x i r = beginP (endAny s x i).2 i r) ∨
    ((x.st = 2 ∨ x.st = 3 ∨ x.st = 4) ∧ goB x.st r ≠ true ∧ (endAny s x i).1 ≠ 0 ∧ stepQ s x i r = endAny s x i) ∨
    (¬ (1 ≤ x.st ∧ x.st ≤ 6) ∧ stepQ s x i r = beginP x i r) := by
  unfold stepQ stepP endAny
  rw [Int.toNat_natCast]
  by_cases h4 : x.st = 4
  · rw [if_pos h4, if_pos h4]
    by_cases hg : goB 4 r = true
    · exact .inr (.inr (.inr (.inl ⟨.inr (.inr h4), by rw [h4]; exact hg, if_pos hg⟩)))
    · rw [if_neg hg]
      by_cases he : (endDigP x (cutB s x.fr.toNat i)).1 = 0
      · exact .inr (.inr (.inr (.inr (.inl ⟨.inr (.inr h4), he, if_pos he⟩))))
      · exact .inr (.inr (.inr (.inr (.inr (.inl ⟨.inr (.inr h4), by rw [h4]; exact hg, he, if_neg he⟩)))))
  · rw [if_neg h4, if_neg h4]
    by_cases h1 : x.st = 1
    · exact .inl ⟨h1, if_pos h1⟩
    · rw [if_neg h1]
      by_cases h5 : x.st = 5
      · exact .inr (.inl ⟨h5, if_pos h5⟩)
      · rw [if_neg h5]
        by_cases h6 : x.st = 6
        · exact .inr (.inr (.inl ⟨h6, if_pos h6⟩))
        · rw [if_neg h6]
          by_cases h23 : x.st = 2 ∨ x.st = 3
          · have h23' : x.st = 2 ∨ x.st = 3 ∨ x.st = 4 := by omega
            rw [if_pos h23]
            by_cases hg : goB x.st r = true
            · exact .inr (.inr (.inr (.inl ⟨h23', hg, if_pos hg⟩)))
            · rw [if_neg hg]
              by_cases he : (endRunP s x i).1 = 0
              · exact .inr (.inr (.inr (.inr (.inl ⟨h23', he, if_pos he⟩))))
              · exact .inr (.inr (.inr (.inr (.inr (.inl ⟨h23', hg, he, if_neg he⟩)))))
          · rw [if_neg h23]
            exact .inr (.inr (.inr (.inr (.inr (.inr ⟨by omega, rfl⟩)))))
/-- How the end goes. -/
theorem end_cases (s : By) (x : SS) :
    ((x.st = 5 ∨ x.st = 6) ∧ endQ s x = (83, x)) ∨
    ((x.st = 2 ∨ x.st = 3 ∨ x.st = 4) ∧ (endAny s x s.length).1 = 0 ∧ (endQ s x).1 = 0) ∨
    ((x.st = 2 ∨ x.st = 3 ∨ x.st = 4) ∧ (endAny s x s.length).1 ≠ 0 ∧ endQ s x = endAny s x s.length) ∨
    (¬ (2 ≤ x.st ∧ x.st ≤ 6) ∧ (endQ s x).1 = 0) := by
  unfold endQ endP endAny
  by_cases h4 : x.st = 4
  · rw [if_pos h4, if_pos h4]
    by_cases he : (endDigP x (cutB s x.fr.toNat s.length)).1 = 0
    · exact .inr (.inl ⟨.inr (.inr h4), he, by rw [if_pos he]⟩)
    · exact .inr (.inr (.inl ⟨.inr (.inr h4), he, if_neg he⟩))
  · rw [if_neg h4, if_neg h4]
    by_cases h56 : x.st = 5 ∨ x.st = 6
    · exact .inl ⟨h56, if_pos h56⟩
    · rw [if_neg h56]
      by_cases h23 : x.st = 2 ∨ x.st = 3
      · have h23' : x.st = 2 ∨ x.st = 3 ∨ x.st = 4 := by omega
        rw [if_pos h23]
        by_cases he : (endRunP s x s.length).1 = 0
        · exact .inr (.inl ⟨h23', he, by rw [if_pos he]⟩)
        · exact .inr (.inr (.inl ⟨h23', he, if_neg he⟩))
      · rw [if_neg h23]
        exact .inr (.inr (.inr ⟨by omega, rfl⟩))
/-- How a begin goes. -/
theorem begin_cases (y : SS) (q r : Int) : (beginP y q r).2.fr = q ∧ ((beginP y q r).1 = 80 ∨ (beginP y q r).1 = 0 ∧ ((beginP y q r).2.st = 0 ∨ (beginP y q r).2.st = 1 ∨ (beginP y q r).2.st = 5 ∨ ((beginP y q r).2.st = 2 ∨ (beginP y q r).2.st = 3 ∨ (beginP y q r).2.st = 4) ∧ goB (beginP y q r).2.st r = true)) := by
  unfold beginP
  split
  · exact ⟨rfl, .inr ⟨rfl, .inl rfl⟩⟩
  · split
    · exact ⟨rfl, .inr ⟨rfl, .inr (.inl rfl)⟩⟩
    · split
      · rename_i h
        exact ⟨rfl, .inr ⟨rfl, .inr (.inr (.inr ⟨.inl rfl, sm_go h⟩))⟩⟩
      · split
        · rename_i h
          exact ⟨rfl, .inr ⟨rfl, .inr (.inr (.inr ⟨.inr (.inl rfl), by show goB 3 r = true; unfold goB; rw [if_neg (by decide), if_pos rfl]; exact h⟩))⟩⟩
        · split
          · rename_i h
            exact ⟨rfl, .inr ⟨rfl, .inr (.inr (.inr ⟨.inr (.inr rfl), by show goB 4 r = true; unfold goB; rw [if_neg (by decide), if_neg (by decide), h]; simp⟩))⟩⟩
          · split
            · exact ⟨rfl, .inr ⟨rfl, .inr (.inr (.inl rfl))⟩⟩
            · split
              · exact ⟨rfl, .inr ⟨rfl, .inl rfl⟩⟩
              · exact ⟨rfl, .inl rfl⟩
/-- What stands ahead of a place is right. -/
def Good (s : By) (f : Nat) : Prop := ∃ x, foldQ s 0 x0 (s.take f) = (0, x) ∧ (endQ (s.take f) x).1 = 0
structure InF (s : By) (i : Nat) (x : SS) : Prop where
  st : foldQ s 0 x0 (s.take i) = (0, x)
  f0 : 0 ≤ x.fr
  big : 2 ≤ x.st → x.st ≤ 6 → x.fr < i ∧ Good s x.fr.toNat
  run : x.st = 2 ∨ x.st = 3 ∨ x.st = 4 → ∀ c ∈ cutB s x.fr.toNat i, goB x.st (bI c) = true
/-- Where it falls. -/
structure Fl (s : By) (i : Nat) (c : Int) (y : SS) : Prop where
  f0 : 0 ≤ y.fr
  f1 : y.fr ≤ i
  good : Good s y.fr.toNat
  c0 : c ≠ 0 ∧ c ≠ 84
  run : c ≠ 83 → ∀ b ∈ cutB s y.fr.toNat i, b ≠ 32 ∧ b ≠ 10
  loc : c ≠ 83 → ∀ s' : By, s'.take i = s.take i → ∀ hi : i < s'.length, ((∃ h : i < s.length, s'[i] = s[i]) ∨ (s'[i] = 32 ∧ y.fr < i)) → foldQ s' 0 x0 s' = (c, y)
theorem fold_fail {s : By} {i : Nat} (hi : i < s.length) {x : SS} (h : foldQ s 0 x0 (s.take i) = (0, x)) {y : Int × SS} (hy : stepQ s x i (bI s[i]) = y) (hn : y.1 ≠ 0) : foldQ s 0 x0 s = y := by
  have e : s = s.take i ++ s[i] :: s.drop (i + 1) := by rw [← List.drop_eq_getElem_cons hi, List.take_append_drop]
  have hl : (s.take i).length = i := by simp; omega
  have := foldQ_append s (s.take i) (s[i] :: s.drop (i + 1)) 0 x0
  rw [← e, h, if_pos rfl, hl, Nat.zero_add, foldQ, hy, if_neg hn] at this
  exact this
theorem fold_next {s : By} {i : Nat} (hi : i < s.length) {x : SS} (h : foldQ s 0 x0 (s.take i) = (0, x)) {y : SS} (hy : stepQ s x i (bI s[i]) = (0, y)) : foldQ s 0 x0 (s.take (i + 1)) = (0, y) := by
  have e : s.take (i + 1) = s.take i ++ [s[i]] := by rw [List.take_add_one, List.getElem?_eq_getElem hi]; rfl
  have hl : (s.take i).length = i := by simp; omega
  rw [e, foldQ_append, h, if_pos rfl, hl, Nat.zero_add, foldQ, hy, if_pos rfl, foldQ]
theorem good_of {s : By} {i : Nat} (hi : i ≤ s.length) {x : SS} (h : foldQ s 0 x0 (s.take i) = (0, x)) (he : (x.st = 2 ∨ x.st = 3 ∨ x.st = 4) ∧ (endAny s x i).1 = 0 ∨ ¬ (2 ≤ x.st ∧ x.st ≤ 6)) : Good s i := by
  refine ⟨x, h, ?_⟩
  have hl : (s.take i).length = i := by simp; omega
  have hloc : endAny (s.take i) x i = endAny s x i := endAny_loc (by rw [List.take_take, Nat.min_self]) x
  rcases end_cases (s.take i) x with ⟨h1, h2⟩ | ⟨h1, h2, h3⟩ | ⟨h1, h2, h3⟩ | ⟨h1, h2⟩
  · rcases he with ⟨h4, _⟩ | h4
    · omega
    · omega
  · exact h3
  · rw [hl, hloc] at h2
    rcases he with ⟨_, h4⟩ | h4
    · exact absurd h4 h2
    · omega
  · exact h2
theorem not_blank {k : Int} {b : UInt8} (h : goB k (bI b) = true) : b ≠ 32 ∧ b ≠ 10 := by
  constructor
  · rintro rfl
    revert h
    unfold goB
    split
    · decide
    · split
      · decide
      · decide
  · rintro rfl
    revert h
    unfold goB
    split
    · decide
    · split
      · decide
      · decide
theorem go_blank (k : Int) : goB k (bI 32) ≠ true := fun h => (not_blank h).1 rfl
theorem InF.start (s : By) : InF s 0 x0 := ⟨rfl, by decide, fun h _ => absurd h (by decide), fun h => absurd h (by decide)⟩
/-- One byte on, or it falls. -/
theorem inF_step {s : By} {i : Nat} (hi : i < s.length) {x : SS} (h : InF s i x) :
    (∃ y, stepQ s x i (bI s[i]) = (0, y) ∧ InF s (i + 1) y) ∨ ∃ c y, stepQ s x i (bI s[i]) = (c, y) ∧ Fl s i c y := by
  obtain ⟨hst, hf0, hbig, hrun⟩ := h
  have hloc1 : ∀ {c : Int} {y : SS}, stepQ s x i (bI s[i]) = (c, y) → c ≠ 0 → ∀ s' : By, s'.take i = s.take i → ∀ hi' : i < s'.length, s'[i] = s[i] → foldQ s' 0 x0 s' = (c, y) := fun {c y} hy hc s' ht hi' hb => by
    refine fold_fail hi' (x := x) ?_ ?_ hc
    · rw [ht, ← hst]
      exact foldQ_loc _ 0 _ (by simp only [List.length_take]; exact take_mono ht (by omega))
    · rw [hb, stepQ_loc ht, hy]
  have hbeg : ∀ y, stepQ s x i (bI s[i]) = beginP y i (bI s[i]) → Good s i → (∃ y, stepQ s x i (bI s[i]) = (0, y) ∧ InF s (i + 1) y) ∨ ∃ c y, stepQ s x i (bI s[i]) = (c, y) ∧ Fl s i c y := fun y hy hg => by
    obtain ⟨b1, b2⟩ := begin_cases y i (bI s[i])
    rw [← hy] at b1 b2
    generalize hz : stepQ s x i (bI s[i]) = z at *
    obtain ⟨c, z⟩ := z
    simp only at b1 b2
    rcases b2 with rfl | ⟨rfl, b2⟩
    · refine .inr ⟨80, z, rfl, by omega, by omega, by rw [b1]; exact hg, by decide, fun _ b hb => ?_, fun _ s' ht hi' hb => ?_⟩
      · rw [b1, Int.toNat_natCast, cut_self] at hb
        cases hb
      · rcases hb with ⟨_, hb⟩ | ⟨_, hb⟩
        · exact hloc1 rfl (by decide) s' ht hi' hb
        · omega
    · refine .inl ⟨z, rfl, fold_next hi hst hz, by omega, fun _ _ => ⟨by omega, by rw [b1]; exact hg⟩, fun hr c hc => ?_⟩
      rw [b1, Int.toNat_natCast, cut_one s hi] at hc
      have : c = s[i] := by simpa using hc
      rw [this]
      rcases b2 with b2 | b2 | b2 | ⟨_, b2⟩
      · omega
      · omega
      · omega
      · exact b2
  have hmean : ∀ (x' : SS), x'.fr = x.fr → x'.st = 5 → 2 ≤ x.st → x.st ≤ 6 → stepQ s x i (bI s[i]) = meanP x' (bI s[i]) → (∃ y, stepQ s x i (bI s[i]) = (0, y) ∧ InF s (i + 1) y) ∨ ∃ c y, stepQ s x i (bI s[i]) = (c, y) ∧ Fl s i c y := fun x' hfr h5 g1 g2 hy => by
    obtain ⟨g3, g4⟩ := hbig g1 g2
    unfold meanP at hy
    split at hy
    · refine .inl ⟨_, hy, fold_next hi hst hy, by show 0 ≤ x'.fr; omega, fun _ _ => ⟨by show x'.fr < ((i + 1 : Nat) : Int); omega, by show Good s x'.fr.toNat; rw [hfr]; exact g4⟩, fun hr => ?_⟩
      have hr : x'.st = 2 ∨ x'.st = 3 ∨ x'.st = 4 := hr
      omega
    · exact .inr ⟨83, _, hy, by omega, by omega, by rw [hfr]; exact g4, by decide, fun h => absurd rfl h, fun h => absurd rfl h⟩
  rcases step_cases s x i (bI s[i]) with ⟨e, hy⟩ | ⟨e, hy⟩ | ⟨e, hy⟩ | ⟨e, hg, hy⟩ | ⟨e, he, hy⟩ | ⟨e, hg, he, hy⟩ | ⟨e, hy⟩
  · refine .inl ⟨_, hy, fold_next hi hst hy, ?_, fun h1 _ => ?_, fun h1 => ?_⟩
    · split
      · exact hf0
      · exact hf0
    · split at h1
      · exact absurd h1 (by show ¬ (2 : Int) ≤ 0; decide)
      · omega
    · split at h1
      · rcases h1 with h1 | h1 | h1 <;> cases h1
      · omega
  · obtain ⟨g3, g4⟩ := hbig (by omega) (by omega)
    unfold stepTextP at hy
    split at hy
    · exact .inl ⟨_, hy, fold_next hi hst hy, hf0, fun h1 _ => absurd h1 (by show ¬ (2 : Int) ≤ 0; decide), fun h1 => by rcases h1 with h1 | h1 | h1 <;> cases h1⟩
    · split at hy
      · exact .inl ⟨_, hy, fold_next hi hst hy, hf0, fun _ _ => ⟨by show x.fr < ((i + 1 : Nat) : Int); omega, g4⟩, fun h1 => by rcases h1 with h1 | h1 | h1 <;> cases h1⟩
      · exact hmean x rfl e (by omega) (by omega) hy
  · obtain ⟨g3, g4⟩ := hbig (by omega) (by omega)
    unfold stepEscP at hy
    split at hy
    · exact hmean { x with st := 5 } rfl rfl (by omega) (by omega) hy
    · exact .inr ⟨83, _, hy, by omega, by omega, g4, by decide, fun h => absurd rfl h, fun h => absurd rfl h⟩
  · obtain ⟨g3, g4⟩ := hbig (by omega) (by omega)
    refine .inl ⟨_, hy, fold_next hi hst hy, hf0, fun _ _ => ⟨by omega, g4⟩, fun hr c hc => ?_⟩
    rw [cut_snoc s (by have : x.fr.toNat ≤ i := (by omega); exact this) hi] at hc
    rcases List.mem_append.1 hc with hc | hc
    · exact hrun hr c hc
    · have : c = s[i] := by simpa using hc
      rw [this]
      exact hg
  · exact hbeg _ hy (good_of (by omega) hst (.inl ⟨e, he⟩))
  · obtain ⟨g3, g4⟩ := hbig (by omega) (by omega)
    obtain ⟨c, hc, hcx⟩ := endAny_fail s x i he
    rw [hcx] at hy
    refine .inr ⟨c, x, hy, hf0, by omega, g4, by omega, fun _ b hb => not_blank (hrun e b hb), fun _ s' ht hi' hb => ?_⟩
    rcases hb with ⟨_, hb⟩ | ⟨hb, _⟩
    · exact hloc1 hy (by omega) s' ht hi' hb
    · refine fold_fail hi' (x := x) ?_ ?_ (by show c ≠ 0; omega)
      · rw [ht, ← hst]
        exact foldQ_loc _ 0 _ (by simp only [List.length_take]; exact take_mono ht (by omega))
      · rw [hb, stepQ_loc ht]
        rcases step_cases s x i (bI 32) with ⟨e1, _⟩ | ⟨e1, _⟩ | ⟨e1, _⟩ | ⟨_, e1, _⟩ | ⟨_, e1, _⟩ | ⟨_, _, _, e1⟩ | ⟨e1, _⟩
        · omega
        · omega
        · omega
        · exact absurd e1 (go_blank _)
        · exact absurd e1 he
        · rw [e1, hcx]
        · omega
  · exact hbeg _ hy (good_of (by omega) hst (.inr (by omega)))
end Go.Proofs.YtlmhofjiobmodaaGreatDoor
/-
  The scanner as a pure function that takes one token after the other. No condition.
-/
namespace Go.Proofs.YtlmhofjiobmodaaGreatDoor
open Go.RowKit Go.Lib

/-- A run of digits as a token. -/
def dgT (run : By) : Option Tk :=
  if 46 ∈ run ∨ 47 ∈ run then (pfxL run).map fun p => ⟨5, [], 0, p.1, p.2, 0⟩ else (numB run).map fun u => ⟨4, [], u, 0, 0, 0⟩
/-- A run as a token, by its kind. -/
def endT (k : Int) (run : By) : Except Int Tk :=
  if k = 2 then (if 32 < run.length then .error 82 else .ok ⟨if wdB run = true then 1 else 2, run, 0, 0, 0, 0⟩)
  else if k = 3 then (if 16 < run.length then .error 82 else .ok ⟨3, run, 0, 0, 0, 0⟩)
  else match dgT run with
    | some z => .ok z
    | none => .error 81
theorem endAny_T (s : By) (x : SS) (q : Nat) (hk : x.st = 2 ∨ x.st = 3 ∨ x.st = 4) : endAny s x q = match endT x.st (cutB s x.fr.toNat q) with
    | .ok z => (0, { x with tk := x.tk ++ [{ z with p := x.fr }] })
    | .error e => (e, x) := by
  unfold endAny endT
  rcases hk with h | h | h
  · rw [if_neg (by omega), if_pos h]
    unfold endRunP endLettersP
    rw [if_pos h, Int.toNat_natCast]
    by_cases hl : 32 < (cutB s x.fr.toNat q).length
    · rw [if_pos hl, if_pos (by omega)]
    · rw [if_neg hl, if_neg (by omega)]
  · rw [if_neg (by omega), if_neg (by omega), if_pos h]
    unfold endRunP endLettersP
    rw [if_neg (by omega), Int.toNat_natCast]
    by_cases hl : 16 < (cutB s x.fr.toNat q).length
    · rw [if_pos hl, if_pos (by omega)]
    · rw [if_neg hl, if_neg (by omega)]
  · rw [if_pos h, if_neg (by omega), if_neg (by omega)]
    unfold endDigP dgT
    generalize cutB s x.fr.toNat q = run
    by_cases hp : 46 ∈ run ∨ 47 ∈ run
    · rw [if_pos hp, if_pos hp]
      unfold endPfxP
      cases pfxL run with
      | none => rfl
      | some p => rfl
    · rw [if_neg hp, if_neg hp]
      unfold endNumP
      cases numB run with
      | none => rfl
      | some p => rfl
/-- What a text means, and how many bytes it takes from behind its first quote on. -/
def txL (acc : By) : By → Option (By × Nat)
  | [] => none
  | c :: t =>
    if c = 34 then (if acc.length ≤ 200 then some (acc, 1) else none)
    else if txB (bI c) = true then
      if c = 92 then
        match t with
        | [] => none
        | d :: u => if esB (bI d) = true then (txL (acc ++ [d]) u).map fun p => (p.1, p.2 + 2) else none
      else (txL (acc ++ [c]) t).map fun p => (p.1, p.2 + 1)
    else none
  termination_by r => r.length
  decreasing_by all_goals (simp_wf; try omega)
/-- The token at a text's begin, and its bytes. -/
def oneL : By → Except Int (Tk × Nat)
  | [] => .error 80
  | c :: t =>
    if smB (bI c) = true then (endT 2 ((c :: t).takeWhile fun b => goB 2 (bI b))).map fun z => (z, ((c :: t).takeWhile fun b => goB 2 (bI b)).length)
    else if grB (bI c) = true then (endT 3 ((c :: t).takeWhile fun b => goB 3 (bI b))).map fun z => (z, ((c :: t).takeWhile fun b => goB 3 (bI b)).length)
    else if dgB (bI c) = true then (endT 4 ((c :: t).takeWhile fun b => goB 4 (bI b))).map fun z => (z, ((c :: t).takeWhile fun b => goB 4 (bI b)).length)
    else if c = 34 then
      match txL [] t with
      | some (m, n) => .ok (⟨6, m, 0, 0, 0, 0⟩, n + 1)
      | none => .error 83
    else if sgB (bI c) = true then .ok (⟨7, [c], 0, 0, 0, 0⟩, 1)
    else .error 80
/-- All tokens from a place on; rm: within a remark. -/
def toks (rm : Bool) (i : Nat) (r : By) : Except (Int × Int) (List Tk) :=
  match r with
  | [] => .ok [⟨8, [], 0, 0, 0, i⟩]
  | c :: t =>
    if rm = true then (if c = 10 then toks false (i + 1) t else toks true (i + 1) t)
    else if blB (bI c) = true then toks false (i + 1) t
    else if c = 35 then toks true (i + 1) t
    else match oneL (c :: t) with
      | .error e => .error (e, i)
      | .ok (x, n) => (toks false (i + (n - 1) + 1) (t.drop (n - 1))).map fun L => { x with p := i } :: L
  termination_by r.length
  decreasing_by all_goals (simp_wf; try omega)
/-- What is told from a place and a state on. -/
def scF (s : By) (i : Nat) (x : SS) : Except (Int × Int) (List Tk) :=
  if (foldQ s i x (s.drop i)).1 ≠ 0 then .error ((foldQ s i x (s.drop i)).1, (foldQ s i x (s.drop i)).2.fr)
  else if (endQ s (foldQ s i x (s.drop i)).2).1 ≠ 0 then .error ((endQ s (foldQ s i x (s.drop i)).2).1, (endQ s (foldQ s i x (s.drop i)).2).2.fr)
  else .ok (endQ s (foldQ s i x (s.drop i)).2).2.tk
theorem scF_fold {s : By} {i j : Nat} {x y : SS} (h : foldQ s i x (s.drop i) = foldQ s j y (s.drop j)) : scF s i x = scF s j y := by
  unfold scF
  rw [h]
theorem scF_step {s : By} {i : Nat} (hi : i < s.length) {x y : SS} (h : stepQ s x i (bI s[i]) = (0, y)) : scF s i x = scF s (i + 1) y := by
  refine scF_fold ?_
  rw [List.drop_eq_getElem_cons hi, foldQ, h, if_pos rfl]
theorem scF_fall {s : By} {i : Nat} (hi : i < s.length) {x y : SS} {c : Int} (hc : c ≠ 0) (h : stepQ s x i (bI s[i]) = (c, y)) : scF s i x = .error (c, y.fr) := by
  unfold scF
  rw [List.drop_eq_getElem_cons hi, foldQ, h, if_neg hc, if_pos hc]
theorem scF_end (s : By) (x : SS) : scF s s.length x = if (endQ s x).1 ≠ 0 then .error ((endQ s x).1, (endQ s x).2.fr) else .ok (endQ s x).2.tk := by
  unfold scF
  rw [List.drop_length, foldQ, if_neg (by show ¬ ((0 : Int) ≠ 0); decide)]
theorem scF_same {s : By} {i : Nat} (hi : i < s.length) {x y : SS} (h : stepQ s x i (bI s[i]) = stepQ s y i (bI s[i])) : scF s i x = scF s i y := by
  refine scF_fold ?_
  rw [List.drop_eq_getElem_cons hi, foldQ, foldQ, h]
theorem begin_same (x y : SS) (q r : Int) (ht : x.tk = y.tk) (hm : x.mn = y.mn) : beginP x q r = beginP y q r := by
  obtain ⟨xt, xs, xf, xm⟩ := x
  obtain ⟨yt, ys, yf, ym⟩ := y
  simp only at ht hm
  subst ht hm
  unfold beginP
  rfl
theorem step_zero (s : By) (x : SS) (i : Nat) (r : Int) (h : x.st = 0) : stepQ s x i r = beginP x i r := by
  rcases step_cases s x i r with ⟨e, _⟩ | ⟨e, _⟩ | ⟨e, _⟩ | ⟨e, _⟩ | ⟨e, _⟩ | ⟨e, _⟩ | ⟨e, hy⟩
  · omega
  · omega
  · omega
  · omega
  · omega
  · omega
  · exact hy
/-- A run has ended. -/
theorem run_end {s : By} {i : Nat} (hi : i ≤ s.length) {x : SS} (hk : x.st = 2 ∨ x.st = 3 ∨ x.st = 4) (hg : ∀ h : i < s.length, goB x.st (bI s[i]) ≠ true) :
    scF s i x = match endT x.st (cutB s x.fr.toNat i) with
      | .ok z => scF s i { x with st := 0, tk := x.tk ++ [{ z with p := x.fr }] }
      | .error e => .error (e, x.fr) := by
  have hE := endAny_T s x i hk
  have hne : ∀ e, endT x.st (cutB s x.fr.toNat i) = .error e → e ≠ 0 := fun e he => by
    unfold endT at he
    split at he
    · split at he
      · rw [← Except.error.inj he]; decide
      · cases he
    · split at he
      · split at he
        · rw [← Except.error.inj he]; decide
        · cases he
      · split at he
        · cases he
        · rw [← Except.error.inj he]; decide
  rcases Nat.lt_or_ge i s.length with h | h
  · rcases step_cases s x i (bI s[i]) with ⟨e, _⟩ | ⟨e, _⟩ | ⟨e, _⟩ | ⟨_, e, _⟩ | ⟨_, e, hy⟩ | ⟨_, _, e, hy⟩ | ⟨e, hy⟩
    · omega
    · omega
    · omega
    · exact absurd e (hg h)
    · cases hT : endT x.st (cutB s x.fr.toNat i) with
      | ok z =>
        rw [hT] at hE
        simp only at hE ⊢
        refine scF_same h ?_
        rw [hy, hE, step_zero _ _ _ _ rfl]
        exact begin_same _ _ _ _ rfl rfl
      | error c =>
        rw [hT] at hE
        simp only at hE
        rw [hE] at e
        exact absurd e (hne c hT)
    · cases hT : endT x.st (cutB s x.fr.toNat i) with
      | ok z =>
        rw [hT] at hE
        simp only at hE
        rw [hE] at e
        exact absurd rfl e
      | error c =>
        rw [hT] at hE
        simp only at hE ⊢
        exact scF_fall h (hne c hT) (by rw [hy, hE])
    · omega
  · obtain rfl : i = s.length := by omega
    have hq : endQ s x = if (endAny s x s.length).1 = 0 then (0, { (endAny s x s.length).2 with fr := s.length, tk := (endAny s x s.length).2.tk ++ [⟨8, [], 0, 0, 0, s.length⟩] }) else endAny s x s.length := by
      unfold endQ endP endAny
      by_cases h4 : x.st = 4
      · rw [if_pos h4, if_pos h4]
      · rw [if_neg h4, if_neg h4, if_neg (by omega), if_pos (by omega)]
    rw [scF_end, hq, hE]
    cases hT : endT x.st (cutB s x.fr.toNat s.length) with
    | ok z =>
      simp only
      rw [scF_end]
      unfold endQ endP
      simp
    | error c =>
      have := hne c hT
      simp only
      rw [if_neg this, if_pos this]
/-- .. and goes on. -/
theorem run_on {s : By} {x : SS} (hk : x.st = 2 ∨ x.st = 3 ∨ x.st = 4) : ∀ (n i : Nat), i + n ≤ s.length → (∀ j (hj : j < s.length), i ≤ j → j < i + n → goB x.st (bI s[j]) = true) → scF s i x = scF s (i + n) x
  | 0, i, _, _ => rfl
  | n + 1, i, hn, hg => by
    have hi : i < s.length := by omega
    have hs : stepQ s x i (bI s[i]) = (0, x) := by
      have := hg i hi (Nat.le_refl _) (by omega)
      unfold stepQ stepP
      by_cases h4 : x.st = 4
      · rw [h4] at this
        rw [if_pos h4, if_pos this]
      · rw [if_neg h4, if_neg (by omega), if_neg (by omega), if_neg (by omega), if_pos (by omega), if_pos this]
    rw [scF_step hi hs, run_on hk n (i + 1) (by omega) (fun j hj h1 h2 => hg j hj (by omega) (by omega))]
    congr 1
    omega
theorem rB_bI (b : UInt8) : rB (bI b) = b := by
  unfold rB bI
  rw [Int.toNat_natCast]
  exact UInt8.ofNat_toNat
theorem bI_is (b : UInt8) (n : Nat) (hn : n < 256) : bI b = (n : Int) ↔ b = UInt8.ofNat n := by
  unfold bI
  constructor
  · intro h
    have h : b.toNat = n := by omega
    rw [← h, UInt8.ofNat_toNat]
  · intro h
    rw [h, UInt8.toNat_ofNat', Nat.mod_eq_of_lt hn]
theorem txL_long (acc r : By) (h : 200 < acc.length) : txL acc r = none := by
  fun_induction txL acc r with
  | case1 => rfl
  | case2 => omega
  | case3 => rfl
  | case4 => rfl
  | case5 acc d u h3 h1 h2 ih => rw [ih (by simp; omega)]; rfl
  | case6 => rfl
  | case7 acc c t h1 h2 h3 ih => rw [ih (by simp; omega)]; rfl
  | case8 => rfl
/-- A text. -/
theorem text_go {s : By} {T : List Tk} {f : Int} : ∀ (k i : Nat) (acc : By), s.length - i ≤ k → i ≤ s.length → acc.length ≤ 200 → scF s i ⟨T, 5, f, acc⟩ = match txL acc (s.drop i) with
      | some (m, n) => scF s (i + n) ⟨T ++ [⟨6, m, 0, 0, 0, f⟩], 0, f, []⟩
      | none => .error (83, f) := by
  intro k
  induction k with
  | zero =>
    intro i acc hk hi ha
    obtain rfl : i = s.length := by omega
    rw [List.drop_length, txL, scF_end]
    have : endQ s ⟨T, 5, f, acc⟩ = (83, ⟨T, 5, f, acc⟩) := by
      unfold endQ endP
      simp
    rw [this]
    rfl
  | succ k ih =>
    intro i acc hk hi ha
    rcases Nat.lt_or_ge i s.length with h | h
    · have hst : stepQ s ⟨T, 5, f, acc⟩ i (bI s[i]) = stepTextP ⟨T, 5, f, acc⟩ (bI s[i]) := by
        unfold stepQ stepP
        simp
      have e34 : bI s[i] = 34 ↔ s[i] = 34 := bI_is s[i] 34 (by decide)
      have e92 : bI s[i] = 92 ↔ s[i] = 92 := bI_is s[i] 92 (by decide)
      rw [List.drop_eq_getElem_cons h, txL.eq_def]
      simp only
      by_cases h34 : s[i] = 34
      · rw [if_pos h34, if_pos ha]
        simp only
        refine scF_step h ?_
        rw [hst]
        unfold stepTextP
        rw [if_pos (e34.2 h34)]
      · rw [if_neg h34]
        by_cases h92 : s[i] = 92
        · rw [if_pos (show txB (bI s[i]) = true by rw [h92]; decide), if_pos h92]
          have h6 : scF s i ⟨T, 5, f, acc⟩ = scF s (i + 1) ⟨T, 6, f, acc⟩ := by
            refine scF_step h ?_
            rw [hst]
            unfold stepTextP
            rw [if_neg (fun e => h34 (e34.1 e)), if_pos (e92.2 h92)]
          rw [h6]
          rcases Nat.lt_or_ge (i + 1) s.length with h' | h'
          · have hst2 : stepQ s ⟨T, 6, f, acc⟩ ((i + 1 : Nat) : Int) (bI s[i + 1]) = stepEscP ⟨T, 6, f, acc⟩ (bI s[i + 1]) := by
              unfold stepQ stepP
              simp
            rw [List.drop_eq_getElem_cons h']
            simp only
            by_cases hes : esB (bI s[i + 1]) = true
            · rw [if_pos hes]
              have htx : txB (bI s[i + 1]) = true := by
                unfold esB at hes
                unfold txB
                simp at hes ⊢
                omega
              by_cases h200 : acc.length = 200
              · rw [txL_long (acc ++ [s[i + 1]]) _ (by simp; omega)]
                simp only [Option.map_none]
                refine scF_fall h' (by decide) (y := ⟨T, 5, f, acc⟩) ?_
                rw [hst2]
                unfold stepEscP meanP
                rw [if_pos hes, if_neg (by simp [h200])]
              · have h5 : scF s (i + 1) ⟨T, 6, f, acc⟩ = scF s (i + 1 + 1) ⟨T, 5, f, acc ++ [s[i + 1]]⟩ := by
                  refine scF_step h' ?_
                  rw [hst2]
                  unfold stepEscP meanP
                  rw [if_pos hes, if_pos ⟨htx, h200⟩, rB_bI]
                rw [h5, ih (i + 1 + 1) (acc ++ [s[i + 1]]) (by omega) (by omega) (by simp; omega)]
                cases txL (acc ++ [s[i + 1]]) (s.drop (i + 1 + 1)) with
                | none => rfl
                | some p =>
                  obtain ⟨m, n⟩ := p
                  simp only [Option.map_some]
                  congr 1
                  omega
            · rw [if_neg hes]
              simp only
              refine scF_fall h' (by decide) (y := ⟨T, 6, f, acc⟩) ?_
              rw [hst2]
              unfold stepEscP
              rw [if_neg hes]
          · have hl : i + 1 = s.length := by omega
            rw [hl, List.drop_length, scF_end]
            have : endQ s ⟨T, 6, f, acc⟩ = (83, ⟨T, 6, f, acc⟩) := by
              unfold endQ endP
              simp
            rw [this]
            rfl
        · have hst3 : stepQ s ⟨T, 5, f, acc⟩ i (bI s[i]) = meanP ⟨T, 5, f, acc⟩ (bI s[i]) := by
            rw [hst]
            unfold stepTextP
            rw [if_neg (fun e => h34 (e34.1 e)), if_neg (fun e => h92 (e92.1 e))]
          by_cases htx : txB (bI s[i]) = true
          · rw [if_pos htx, if_neg h92]
            by_cases h200 : acc.length = 200
            · rw [txL_long (acc ++ [s[i]]) _ (by simp; omega)]
              simp only [Option.map_none]
              refine scF_fall h (by decide) (y := ⟨T, 5, f, acc⟩) ?_
              rw [hst3]
              unfold meanP
              rw [if_neg (by simp [h200])]
            · have h5 : scF s i ⟨T, 5, f, acc⟩ = scF s (i + 1) ⟨T, 5, f, acc ++ [s[i]]⟩ := by
                refine scF_step h ?_
                rw [hst3]
                unfold meanP
                rw [if_pos ⟨htx, h200⟩, rB_bI]
              rw [h5, ih (i + 1) (acc ++ [s[i]]) (by omega) (by omega) (by simp; omega)]
              cases txL (acc ++ [s[i]]) (s.drop (i + 1)) with
              | none => rfl
              | some p =>
                obtain ⟨m, n⟩ := p
                simp only [Option.map_some]
                congr 1
                omega
          · rw [if_neg htx]
            simp only
            refine scF_fall h (by decide) (y := ⟨T, 5, f, acc⟩) ?_
            rw [hst3]
            unfold meanP
            rw [if_neg (fun hh => htx hh.1)]
    · obtain rfl : i = s.length := by omega
      rw [List.drop_length, txL, scF_end]
      have : endQ s ⟨T, 5, f, acc⟩ = (83, ⟨T, 5, f, acc⟩) := by
        unfold endQ endP
        simp
      rw [this]
      rfl
end Go.Proofs.YtlmhofjiobmodaaGreatDoor
