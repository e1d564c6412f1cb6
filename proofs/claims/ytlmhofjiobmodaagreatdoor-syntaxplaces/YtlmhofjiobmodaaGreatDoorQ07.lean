/-
  strings.Clone, endRun of a run of letters by their contracts. Conditions: the run lies within the source, which has at most 2^32 bytes.
-/
import Derived.Test.YtlmhofjiobmodaaGreatDoorQ06
import Derived.Deep.RegionWith
namespace Go.Proofs.YtlmhofjiobmodaaGreatDoor
open Go.RowKit Go.Lib

theorem clone_any (s : By) (w : World) (hl : s.length ≤ 4294967296) : Calls Tryz.prog 95 #[.string ⟨s.toArray⟩] w fun e w' => e = .returned (.string ⟨s.toArray⟩) ∧ Below w.heap.size w w' := by
  have HC := hide (Tryz.stringslite_Clone ⟨s.toArray⟩ w (by rw [bs_size]; omega))
  go_enter Tryz.func95, Tryz.ntmps95
  go_wp2_with (go_at_call 128; refine HC.out.mono ?_; rintro e w1 ⟨rfl, x1⟩; have X1 := hide x1; clear x1)
  go_ret
  exact ⟨rfl, X1.out⟩
/-- A piece of a source. -/
def cutB (s : By) (i j : Nat) : By := (s.take j).drop i
theorem ext_cut (s : By) (i j : Nat) : (⟨s.toArray⟩ : ByteArray).extract i j = ⟨(cutB s i j).toArray⟩ := by
  unfold cutB
  apply ByteArray.ext
  apply Array.toList_inj.1
  simp [List.drop_take]
/-- The run that ends at a place, as a token. -/
def endRunP (s : By) (x : SS) (q : Int) : Int × SS := if x.st = 2 then endLettersP x (cutB s x.fr.toNat q.toNat) (if wdB (cutB s x.fr.toNat q.toNat) = true then 1 else 2) 32 else endLettersP x (cutB s x.fr.toNat q.toNat) 3 16
section
variable {w : World} {base p : Nat} {s : By} {x : SS}
set_option maxHeartbeats 4000000 in
set_option maxRecDepth 100000 in
theorem endRun_any (h : ScA w base p s x) (q : Int) (h2 : x.st = 2 ∨ x.st = 3) (h0 : 0 ≤ x.fr) (h1 : x.fr ≤ q) (hq : q ≤ s.length) (hs : s.length ≤ 4294967296) (hb : base ≤ w.heap.size) (hl : x.tk.length ≤ 4294967296) :
    Calls Tryz.prog 62 #[.pointer (some ⟨p, 0, none⟩), .int .i64 q] w fun e w' => ScE w base p s (endRunP s x q) e w' := by
  obtain ⟨tv, ad, bv, h⟩ := h
  have hsz := bs_size s
  have HE := hide (ext_cut s x.fr.toNat q.toNat)
  obtain ⟨run, hrun⟩ : ∃ run, Hid (run = cutB s x.fr.toNat q.toNat) := ⟨_, rfl⟩
  rw [← hrun.out] at HE
  have hrl : run.length ≤ 4294967296 := by rw [hrun.out]; unfold cutB; simp; omega
  have HCL := hide (fun W => clone_any run W hrl)
  have HC : Hid (∀ V, Below w.heap.size w V → ScA V base p s x ∧ V.cell? ⟨p, 0, none⟩ = some (.string ⟨s.toArray⟩) ∧ V.cell? ⟨p, 2, none⟩ = some (.int .i64 x.st) ∧ V.cell? ⟨p, 3, none⟩ = some (.int .i64 x.fr)) := fun V y => by
    have := h.below y
    obtain ⟨c0, c2, c3, _⟩ := this.cells
    exact ⟨⟨_, _, _, this⟩, c0, c2, c3⟩
  obtain ⟨-, c0, c2, c3⟩ := HC.out w (Below.refl _ _)
  have HH := hide h
  clear h
  go_enter Tryz.func62, Tryz.ntmps62
  go_upto_region 1 with fail
  have HM : Hid (endRunP s x q = if x.st = 2 then endLettersP x run (if wdB run = true then 1 else 2) 32 else endLettersP x run 3 16) := by unfold Hid endRunP; rw [hrun.out]
  go_region_with (go_at_call 95; rw [HE.out]; refine (HCL.out _).mono ?_; rintro e w1 ⟨rfl, x1⟩; have X1 := hide (bt (Below.drew (Below.refl w.heap.size w)) x1 (Nat.le_refl _)); clear x1)
  all_goals
    obtain ⟨hA, d0, d2, d3⟩ := HC.out w1 X1.out
    have hz := X1.out.size
    rcases h2 with h2 | h2
    · rw [h2] at d2
      rw [if_pos h2] at HM
      have HK := hide (fun W => smallKind_any run W)
      generalize (if wdB run = true then (1 : Int) else 2) = kd at *
      have HX := hide (endLetters_any hA run kd 32 (by omega) hl)
      clear hA c0 c2 c3 HC
      go_wp2_with (first | (go_at_call 97; refine (HK.out _).mono ?_; rintro e wz ⟨rfl, hwz⟩; have hwz := hwz.symm; subst hwz) | (go_at_call 96; refine HX.out.mono ?_; rintro e w2 ⟨rfl, hA, hK, hS⟩; have HA2 := hide hA; have HK2 := hide hK; have HS2 := hide hS; clear hA hK hS))
      go_ret
      rw [HM.out]
      exact ⟨rfl, HA2.out, (KpT.of_below X1.out).trans HK2.out, Nat.le_trans X1.out.size HS2.out⟩
    · rw [h2] at d2
      rw [if_neg (by rw [h2]; decide)] at HM
      have HX := hide (endLetters_any hA run 3 16 (by omega) hl)
      clear hA c0 c2 c3 HC
      go_wp2_with (go_at_call 96; refine HX.out.mono ?_; rintro e w2 ⟨rfl, hA, hK, hS⟩; have HA2 := hide hA; have HK2 := hide hK; have HS2 := hide hS; clear hA hK hS)
      go_ret
      rw [HM.out]
      exact ⟨rfl, HA2.out, (KpT.of_below X1.out).trans HK2.out, Nat.le_trans X1.out.size HS2.out⟩
end
end Go.Proofs.YtlmhofjiobmodaaGreatDoor
/-
  The scanner's step and end by their contracts. Conditions: a rune below 128; no run of digits; what the scanner is in began within the source.
-/
namespace Go.Proofs.YtlmhofjiobmodaaGreatDoor
open Go.RowKit Go.Lib

/-- One rune at a place. -/
def stepP (s : By) (x : SS) (q r : Int) : Int × SS :=
  if x.st = 1 then (0, if r = 10 then { x with st := 0 } else x)
  else if x.st = 5 then stepTextP x r
  else if x.st = 6 then stepEscP x r
  else if x.st = 2 ∨ x.st = 3 then
    if goB x.st r = true then (0, x)
    else if (endRunP s x q).1 = 0 then beginP (endRunP s x q).2 q r else endRunP s x q
  else beginP x q r
/-- The source's end. -/
def endP (s : By) (x : SS) : Int × SS :=
  if x.st = 5 ∨ x.st = 6 then (83, x)
  else if x.st = 2 ∨ x.st = 3 then
    if (endRunP s x s.length).1 = 0 then (0, { (endRunP s x s.length).2 with fr := s.length, tk := (endRunP s x s.length).2.tk ++ [⟨8, [], 0, 0, 0, s.length⟩] }) else endRunP s x s.length
  else (0, { x with fr := s.length, tk := x.tk ++ [⟨8, [], 0, 0, 0, s.length⟩] })
theorem endLetters_tk (x : SS) (run : By) (a b : Int) : (endLettersP x run a b).2.tk.length ≤ x.tk.length + 1 ∧ ((endLettersP x run a b).1 = 0 ∨ (endLettersP x run a b).1 = 82) := by
  unfold endLettersP
  split
  · exact ⟨by simp, .inr rfl⟩
  · exact ⟨by simp, .inl rfl⟩
theorem endRun_tk (s : By) (x : SS) (q : Int) : (endRunP s x q).2.tk.length ≤ x.tk.length + 1 ∧ ((endRunP s x q).1 = 0 ∨ (endRunP s x q).1 = 82) := by
  unfold endRunP
  split
  · exact endLetters_tk _ _ _ _
  · exact endLetters_tk _ _ _ _
section
variable {w : World} {base p : Nat} {s : By} {x : SS}
set_option maxHeartbeats 4000000 in
set_option maxRecDepth 100000 in
theorem step_any (h : ScA w base p s x) (q r : Int) (h0 : 0 ≤ r) (h1 : r < 128) (h4 : x.st ≠ 4) (hf0 : 0 ≤ x.fr) (hf1 : x.fr ≤ q) (hq : q ≤ s.length) (hs : s.length ≤ 4294967296) (hb : base ≤ w.heap.size) (hl : x.tk.length ≤ 4294967295) (hm : x.mn.length ≤ 4294967296) :
    Calls Tryz.prog 37 #[.pointer (some ⟨p, 0, none⟩), .int .i64 q, .int .i32 r] w fun e w' => ScE w base p s (stepP s x q r) e w' := by
  have HA := hide h
  obtain ⟨tv, ad, bv, h⟩ := h
  obtain ⟨-, c2, -, f2, -⟩ := h.cells
  have HH := hide h
  clear h
  by_cases e1 : x.st = 1
  · rw [e1] at c2
    by_cases h10 : r = 10
    · subst h10
      have HM : Hid (stepP s x q 10 = (0, { x with st := 0 })) := by unfold Hid stepP; rw [if_pos e1, if_pos rfl]
      go_enter Tryz.func37, Tryz.ntmps37
      go_wp2
      go_ret
      rw [HM.out]
      obtain ⟨s4, k4⟩ := HH.out.setSt 0
      exact ⟨rfl, ⟨_, _, _, s4⟩, k4, k4.size⟩
    · have e10 : (r == 10) = false := by simp [h10]
      have HM : Hid (stepP s x q r = (0, x)) := by unfold Hid stepP; rw [if_pos e1, if_neg h10]
      go_enter Tryz.func37, Tryz.ntmps37
      go_wp2
      go_ret
      rw [HM.out]
      exact ⟨rfl, HA.out, KpT.refl _ _ _, Nat.le_refl _⟩
  · have g1 : (x.st == 1) = false := by simp [e1]
    by_cases e5 : x.st = 5
    · have HM : Hid (stepP s x q r = stepTextP x r) := by unfold Hid stepP; rw [if_neg e1, if_pos e5]
      rw [e5] at c2
      have HX := hide (stepText_any HA.out r hb hm (by omega))
      clear g1
      go_enter Tryz.func37, Tryz.ntmps37
      go_wp2_with (go_at_call 59; refine HX.out.mono ?_; rintro e w2 ⟨rfl, hA, hK, hS⟩; have HA2 := hide hA; have HK2 := hide hK; have HS2 := hide hS; clear hA hK hS)
      go_ret
      rw [HM.out]
      exact ⟨rfl, HA2.out, HK2.out, HS2.out⟩
    · have g5 : (x.st == 5) = false := by simp [e5]
      by_cases e6 : x.st = 6
      · have HM : Hid (stepP s x q r = stepEscP x r) := by unfold Hid stepP; rw [if_neg e1, if_neg e5, if_pos e6]
        rw [e6] at c2
        have HX := hide (stepEsc_any HA.out r hb hm)
        clear g1 g5
        go_enter Tryz.func37, Tryz.ntmps37
        go_wp2_with (go_at_call 60; refine HX.out.mono ?_; rintro e w2 ⟨rfl, hA, hK, hS⟩; have HA2 := hide hA; have HK2 := hide hK; have HS2 := hide hS; clear hA hK hS)
        go_ret
        rw [HM.out]
        exact ⟨rfl, HA2.out, HK2.out, HS2.out⟩
      · have g6 : (x.st == 6) = false := by simp [e6]
        by_cases e23 : x.st = 2 ∨ x.st = 3
        · have HG := hide (fun W => goesOn_any x.st r W)
          cases hg : goB x.st r with
          | true =>
            have HM : Hid (stepP s x q r = (0, x)) := by unfold Hid stepP; rw [if_neg e1, if_neg e5, if_neg e6, if_pos e23, if_pos hg]
            rw [hg] at HG
            clear hg
            rcases e23 with e2 | e2
            all_goals
              rw [e2] at c2 HG
              clear g1 g5 g6
              go_enter Tryz.func37, Tryz.ntmps37
              go_wp2_with (go_at_call 61; refine (HG.out _).mono ?_; rintro e wz ⟨rfl, hwz⟩; have hwz := hwz.symm; subst hwz)
              go_ret
              rw [HM.out]
              exact ⟨rfl, HA.out, KpT.refl _ _ _, Nat.le_refl _⟩
          | false =>
            have HM : Hid (stepP s x q r = if (endRunP s x q).1 = 0 then beginP (endRunP s x q).2 q r else endRunP s x q) := by unfold Hid stepP; rw [if_neg e1, if_neg e5, if_neg e6, if_pos e23, if_neg (by simp [hg])]
            rw [hg] at HG
            have HX := hide (endRun_any HA.out q e23 hf0 hf1 hq hs hb (by omega))
            obtain ⟨ht, hy⟩ := endRun_tk s x q
            clear hg
            generalize endRunP s x q = y at *
            obtain ⟨y1, y2⟩ := y
            simp only at HM HX ht hy
            have HB : Hid (∀ W, ScA W base p s y2 → base ≤ W.heap.size → Calls Tryz.prog 63 #[.pointer (some ⟨p, 0, none⟩), .int .i64 q, .int .i32 r] W fun e w' => ScE W base p s (beginP y2 q r) e w') := fun W hW hz => begin_any hW q r h0 h1 hz (by omega)
            rcases hy with rfl | rfl
            · rw [if_pos rfl] at HM
              rcases e23 with e2 | e2
              all_goals
                rw [e2] at c2 HG
                clear g1 g5 g6
                go_enter Tryz.func37, Tryz.ntmps37
                go_wp2_with (first | (go_at_call 61; refine (HG.out _).mono ?_; rintro e wz ⟨rfl, hwz⟩; have hwz := hwz.symm; subst hwz) | (go_at_call 62; refine HX.out.mono ?_; rintro e w2 ⟨rfl, hA, hK, hS⟩; have HB2 := hide (HB.out w2 hA (by omega)); have HK2 := hide hK; have HS2 := hide hS; clear hA hK hS) | (go_at_call 63; refine HB2.out.mono ?_; rintro e w3 ⟨rfl, hA, hK, hS⟩; have HA3 := hide hA; have HK3 := hide hK; have HS3 := hide hS; clear hA hK hS))
                go_ret
                rw [HM.out]
                exact ⟨rfl, HA3.out, HK2.out.trans HK3.out, Nat.le_trans HS2.out HS3.out⟩
            · rw [if_neg (by decide)] at HM
              rcases e23 with e2 | e2
              all_goals
                rw [e2] at c2 HG
                clear g1 g5 g6
                go_enter Tryz.func37, Tryz.ntmps37
                go_wp2_with (first | (go_at_call 61; refine (HG.out _).mono ?_; rintro e wz ⟨rfl, hwz⟩; have hwz := hwz.symm; subst hwz) | (go_at_call 62; refine HX.out.mono ?_; rintro e w2 ⟨rfl, hA, hK, hS⟩; have HA2 := hide hA; have HK2 := hide hK; have HS2 := hide hS; clear hA hK hS))
                go_ret
                rw [HM.out]
                exact ⟨rfl, HA2.out, HK2.out, HS2.out⟩
        · have HM : Hid (stepP s x q r = beginP x q r) := by unfold Hid stepP; rw [if_neg e1, if_neg e5, if_neg e6, if_neg e23]
          have g2 : (x.st == 2) = false := by simp; omega
          have g3 : (x.st == 3) = false := by simp; omega
          have g4 : (x.st == 4) = false := by simp [h4]
          have n1 : ¬ x.st = 2 := by omega
          have n2 : ¬ x.st = 3 := by omega
          have HX := hide (begin_any HA.out q r h0 h1 hb (by omega))
          go_enter Tryz.func37, Tryz.ntmps37
          go_wp2_with (go_at_call 63; refine HX.out.mono ?_; rintro e w2 ⟨rfl, hA, hK, hS⟩; have HA2 := hide hA; have HK2 := hide hK; have HS2 := hide hS; clear hA hK hS)
          go_ret
          rw [HM.out]
          exact ⟨rfl, HA2.out, HK2.out, HS2.out⟩
set_option maxHeartbeats 4000000 in
set_option maxRecDepth 100000 in
theorem end_any (h : ScA w base p s x) (h4 : x.st ≠ 4) (hf0 : 0 ≤ x.fr) (hf1 : x.fr ≤ s.length) (hs : s.length ≤ 4294967296) (hb : base ≤ w.heap.size) (hl : x.tk.length ≤ 4294967295) :
    Calls Tryz.prog 38 #[.pointer (some ⟨p, 0, none⟩)] w fun e w' => ScE w base p s (endP s x) e w' := by
  have HA := hide h
  obtain ⟨tv, ad, bv, h⟩ := h
  obtain ⟨c0, c2, -, f2, -⟩ := h.cells
  have hsz := bs_size s
  clear h
  by_cases e5 : x.st = 5
  · rw [e5] at c2
    have HM : Hid (endP s x = (83, x)) := by unfold Hid endP; rw [if_pos (.inl e5)]
    go_enter Tryz.func38, Tryz.ntmps38
    go_wp2
    go_ret
    rw [HM.out]
    exact ⟨rfl, HA.out, KpT.refl _ _ _, Nat.le_refl _⟩
  · have g5 : (x.st == 5) = false := by simp [e5]
    by_cases e6 : x.st = 6
    · rw [e6] at c2
      have HM : Hid (endP s x = (83, x)) := by unfold Hid endP; rw [if_pos (.inr e6)]
      clear g5
      go_enter Tryz.func38, Tryz.ntmps38
      go_wp2
      go_ret
      rw [HM.out]
      exact ⟨rfl, HA.out, KpT.refl _ _ _, Nat.le_refl _⟩
    · have g6 : (x.st == 6) = false := by simp [e6]
      have n56 : ¬ (x.st = 5 ∨ x.st = 6) := by omega
      have HEND : Hid (∀ (W : World) (y : SS), ScA W base p s y → base ≤ W.heap.size → y.tk.length ≤ 4294967296 → ∃ tv ad bv, Sc W base p s y tv ad bv ∧ W.cell? ⟨p, 0, none⟩ = some (.string ⟨s.toArray⟩) ∧ W.frozen? ⟨p, 3, none⟩ = false ∧ (∃ z, W.cell? ⟨p, 3, none⟩ = some z) ∧ KpT base p W (W.setCell ⟨p, 3, none⟩ (.int .i64 s.length)) ∧ Calls Tryz.prog 64 #[.pointer (some ⟨p, 0, none⟩), .agg #[.int .i64 8, .string ⟨#[]⟩, .int .i64 0, .int .i64 0, .int .i64 0, .int .i64 0]] (W.setCell ⟨p, 3, none⟩ (.int .i64 s.length)) fun e w' => e = .returned (.tuple #[]) ∧ ScA w' base p s { y with fr := s.length, tk := y.tk ++ [⟨8, [], 0, 0, 0, s.length⟩] } ∧ KpT base p (W.setCell ⟨p, 3, none⟩ (.int .i64 s.length)) w' ∧ (W.setCell ⟨p, 3, none⟩ (.int .i64 s.length)).heap.size ≤ w'.heap.size) := fun W y hy hz ht => by
        obtain ⟨tv, ad, bv, hy⟩ := hy
        obtain ⟨s1, k1⟩ := hy.setFr s.length
        obtain ⟨d0, -, d3, -, f3⟩ := hy.cells
        refine ⟨tv, ad, bv, hy, d0, f3, ⟨_, d3⟩, k1, ?_⟩
        exact s1.add ⟨8, [], 0, 0, 0, 0⟩ ht (by have := k1.size; omega)
      by_cases e23 : x.st = 2 ∨ x.st = 3
      · have HM : Hid (endP s x = if (endRunP s x s.length).1 = 0 then (0, { (endRunP s x s.length).2 with fr := s.length, tk := (endRunP s x s.length).2.tk ++ [⟨8, [], 0, 0, 0, s.length⟩] }) else endRunP s x s.length) := by unfold Hid endP; rw [if_neg n56, if_pos e23]
        have HX := hide (endRun_any HA.out s.length e23 hf0 hf1 (by omega) hs hb (by omega))
        obtain ⟨ht, hy⟩ := endRun_tk s x s.length
        generalize endRunP s x s.length = y at *
        obtain ⟨y1, y2⟩ := y
        simp only at HM HX ht hy
        rcases hy with rfl | rfl
        · rw [if_pos rfl] at HM
          rcases e23 with e2 | e2
          all_goals
            rw [e2] at c2
            clear g5 g6
            go_enter Tryz.func38, Tryz.ntmps38
            go_wp2_with (first | (go_at_call 62; refine HX.out.mono ?_; rintro e w2 ⟨rfl, hA, hK, hS⟩; obtain ⟨tv, ad, bv, hy, d0, f3, ⟨z, d3⟩, k1, hc⟩ := HEND.out w2 y2 hA (by omega) (by omega); have HC2 := hide hc; have HK1 := hide k1; have HK2 := hide hK; have HS2 := hide hS; clear hA hK hS hy hc k1) | (go_at_call 64; refine HC2.out.mono ?_; rintro e w3 ⟨rfl, hA, hK, hS⟩; have HA3 := hide hA; have HK3 := hide hK; have HS3 := hide hS; clear hA hK hS))
            go_ret
            rw [HM.out]
            exact ⟨rfl, HA3.out, HK2.out.trans (HK1.out.trans HK3.out), Nat.le_trans HS2.out (Nat.le_trans HK1.out.size HS3.out)⟩
        · rw [if_neg (by decide)] at HM
          rcases e23 with e2 | e2
          all_goals
            rw [e2] at c2
            clear g5 g6
            go_enter Tryz.func38, Tryz.ntmps38
            go_wp2_with (go_at_call 62; refine HX.out.mono ?_; rintro e w2 ⟨rfl, hA, hK, hS⟩; have HA2 := hide hA; have HK2 := hide hK; have HS2 := hide hS; clear hA hK hS)
            go_ret
            rw [HM.out]
            exact ⟨rfl, HA2.out, HK2.out, HS2.out⟩
      · have HM : Hid (endP s x = (0, { x with fr := s.length, tk := x.tk ++ [⟨8, [], 0, 0, 0, s.length⟩] })) := by unfold Hid endP; rw [if_neg n56, if_neg e23]
        have g2 : (x.st == 2) = false := by simp; omega
        have g3 : (x.st == 3) = false := by simp; omega
        have g4 : (x.st == 4) = false := by simp [h4]
        have n1 : ¬ x.st = 2 := by omega
        have n2 : ¬ x.st = 3 := by omega
        obtain ⟨tv', ad', bv', hy, d0, f3, ⟨z, d3⟩, k1, hc⟩ := HEND.out w x HA.out hb (by omega)
        have HC2 := hide hc
        have HK1 := hide k1
        clear hy hc k1 d0
        go_enter Tryz.func38, Tryz.ntmps38
        go_wp2_with (go_at_call 64; refine HC2.out.mono ?_; rintro e w3 ⟨rfl, hA, hK, hS⟩; have HA3 := hide hA; have HK3 := hide hK; have HS3 := hide hS; clear hA hK hS)
        go_ret
        rw [HM.out]
        exact ⟨rfl, HA3.out, HK1.out.trans HK3.out, Nat.le_trans HK1.out.size HS3.out⟩
end
end Go.Proofs.YtlmhofjiobmodaaGreatDoor
/-
  Scan by its contract, of a source that is gone through well (okF says how: bytes below 128, no run of digits). Condition: that.
-/
namespace Go.Proofs.YtlmhofjiobmodaaGreatDoor
open Go.RowKit Go.Lib

theorem kept_iter (w : World) (k : Nat) (s : ByteArray) (q : Nat) : Kept (fun j => j = k) w (w.iterAt k s q) := ⟨rfl, rfl, rfl, by rw [Lib.iterAt_size]; exact Nat.le_refl _, fun j _ h => Lib.iterAt_other w k j s q h⟩
theorem ScA.iter {w : World} {base p k : Nat} {s : By} {x : SS} (h : ScA w base p s x) {t : ByteArray} {pos : Nat} (hk : w.heap[k]? = some (.stringIter t pos)) (q : Nat) : ScA (w.iterAt k t q) base p s x := by
  obtain ⟨tv, ad, bv, h⟩ := h
  have hne : ∀ j c e f, w.heap[j]? = some (.cells c e f) → ¬ j = k := fun j c e f hj e' => by rw [e', hk] at hj; cases hj
  refine ⟨tv, ad, bv, (Lib.iterAt_other w k p t q (hne p _ _ _ h.blk)).trans h.blk, h.ge, h.ad', own_kept h.tok (kept_iter w k t q) (fun j hj => ?_), own_kept h.row (kept_iter w k t q) (fun j hj => ?_), h.nil⟩
  · obtain ⟨c, hc⟩ := own_ty h.tok j hj
    exact hne _ _ _ _ hc
  · obtain ⟨c, hc⟩ := own_ty h.row j hj
    exact hne _ _ _ _ hc
/-- All runes from a place on. -/
def foldP (s : By) : Nat → SS → By → Int × SS
  | _, x, [] => (0, x)
  | i, x, b :: t => if (stepP s x i (bI b)).1 = 0 then foldP s (i + 1) (stepP s x i (bI b)).2 t else stepP s x i (bI b)
/-- Does it go well from a place on? -/
def okX (i : Nat) (x : SS) : Bool := decide (x.st ≠ 4) && decide (0 ≤ x.fr) && decide (x.fr ≤ i) && decide (x.tk.length ≤ 8000) && decide (x.mn.length ≤ 8000)
def okF (s : By) : Nat → SS → By → Bool
  | i, x, [] => okX i x
  | i, x, b :: t => okX i x && (decide (b.toNat < 128) && (if (stepP s x i (bI b)).1 = 0 then okF s (i + 1) (stepP s x i (bI b)).2 t else true))
def x0 : SS := ⟨[], 0, 0, []⟩
/-- What Scan tells: tokens, or what is wrong and where. -/
def scanP (s : By) : Except (Int × Int) (List Tk) :=
  if 8000 < s.length then .error (84, 8000)
  else if (foldP s 0 x0 s).1 ≠ 0 then .error ((foldP s 0 x0 s).1, (foldP s 0 x0 s).2.fr)
  else if (endP s (foldP s 0 x0 s).2).1 ≠ 0 then .error ((endP s (foldP s 0 x0 s).2).1, (endP s (foldP s 0 x0 s).2).2.fr)
  else .ok (endP s (foldP s 0 x0 s).2).2.tk
/-- .. as it lies in memory. -/
def ScnP (s : By) (base : Nat) (e : Ending) (w : World) : Prop :=
  match scanP s with
  | .error (c, q) => e = .returned (.tuple #[.slice none 0 0, .int .i64 c, .int .i64 q])
  | .ok L => ∃ tv, e = .returned (.tuple #[tv, .int .i64 0, .int .i64 0]) ∧ w.ownsRow base 49 6 tv L.length (tkC L)
theorem okX_out {i : Nat} {x : SS} (h : okX i x = true) : x.st ≠ 4 ∧ 0 ≤ x.fr ∧ x.fr ≤ i ∧ x.tk.length ≤ 8000 ∧ x.mn.length ≤ 8000 := by
  unfold okX at h
  simp only [Bool.and_eq_true, decide_eq_true_eq] at h
  obtain ⟨⟨⟨⟨h1, h2⟩, h3⟩, h4⟩, h5⟩ := h
  exact ⟨h1, h2, h3, h4, h5⟩
theorem okF_head {s : By} {i : Nat} {x : SS} {t : By} (h : okF s i x t = true) : x.st ≠ 4 ∧ 0 ≤ x.fr ∧ x.fr ≤ i ∧ x.tk.length ≤ 8000 ∧ x.mn.length ≤ 8000 := by
  cases t with
  | nil => exact okX_out h
  | cons b t =>
    rw [okF, Bool.and_eq_true] at h
    exact okX_out h.1
theorem okF_cons {s : By} {i : Nat} {x : SS} {b : UInt8} {t : By} (h : okF s i x (b :: t) = true) : b.toNat < 128 ∧ ((stepP s x i (bI b)).1 = 0 → okF s (i + 1) (stepP s x i (bI b)).2 t = true) := by
  rw [okF, Bool.and_eq_true, Bool.and_eq_true, decide_eq_true_eq] at h
  obtain ⟨_, h6, h7⟩ := h
  exact ⟨h6, fun e => by rw [if_pos e] at h7; exact h7⟩
theorem scan_fold {s : By} (hs : s.length ≤ 8000) {y : Int × SS} (h : foldP s 0 x0 s = y) : scanP s = if y.1 ≠ 0 then .error (y.1, y.2.fr) else if (endP s y.2).1 ≠ 0 then .error ((endP s y.2).1, (endP s y.2).2.fr) else .ok (endP s y.2).2.tk := by
  unfold scanP
  rw [if_neg (by omega), h]
set_option maxHeartbeats 4000000 in
set_option maxRecDepth 100000 in
theorem scan_ok (s : By) (w : World) (hs : s.length ≤ 8000) (hok : okF s 0 x0 s = true) :
    Calls Tryz.prog 16 #[.string ⟨s.toArray⟩] w fun e w' => ScnP s w.heap.size e w' ∧ Below w.heap.size w w' := by
  have hsz := bs_size s
  have hl' : ¬ (8000 : Int) < (s.length : Int) := by omega
  obtain ⟨w2, hw2⟩ : ∃ w2, w2 = w.alloc (.cells #[.string ⟨s.toArray⟩, .slice none 0 0, .int .i64 0, .int .i64 0, .pointer none, .slice none 0 0] 89) := ⟨_, rfl⟩
  have X2 : Below w.heap.size w w2 := by rw [hw2]; exact al (Below.refl _ _) _
  have S2 : Hid (Sc w2 w.heap.size w.heap.size s x0 (.slice none 0 0) (.pointer none) (.slice none 0 0)) := ⟨by rw [hw2]; exact heap_alloc_new w _, Nat.le_refl _, .inl rfl, World.ownsRow_nil _ _ _ _, World.ownsRow_nil _ _ _ _, fun _ => rfl⟩
  have hs2 : w2.heap.size = w.heap.size + 1 := by rw [hw2]; simp
  have HX2 := hide X2
  have HOK := hide hok
  clear X2 hok
  go_enter Tryz.func16, Tryz.ntmps16
  go_upto_region 4 with fail
  rw [← hw2]
  clear hw2
  go_wp2
  obtain ⟨P, hP⟩ : ∃ P, P = w.heap.size := ⟨_, rfl⟩
  have HPW := hide hP
  rw [← hP]
  rw [← hP] at S2 HX2
  have HS2 : Hid (w2.heap.size = P + 1) := by unfold Hid; rw [hs2, hP]
  clear hP hs2
  go_loopw [] (fun wr => ∃ (pos : Nat) (x : SS), wr.heap[P + 1]? = some (.stringIter ⟨s.toArray⟩ pos) ∧ Hid (ScA wr P P s x) ∧ Hid (Below P w wr) ∧ pos ≤ s.length ∧ Hid (okF s pos x (s.drop pos) = true) ∧ Hid (foldP s pos x (s.drop pos) = foldP s 0 x0 s)) (fun wr => s.length - wr.iterPos (P + 1))
  case atStart =>
    refine ⟨0, x0, ?_, ⟨_, _, _, S2.out.below ((Below.refl _ w2).alloc (Nat.le_refl _) _)⟩, ?_, by omega, HOK.out, rfl⟩
    · have := World.iter_heap w2 ⟨s.toArray⟩ 0
      rw [HS2.out] at this
      exact this
    · have := (Below.refl w2.heap.size w2).alloc (Nat.le_refl _) (.stringIter ⟨s.toArray⟩ 0)
      have h2 := bt HX2.out this (by rw [HPW.out]; exact Nat.le_refl _)
      exact h2
  case round =>
    obtain ⟨pos, x, hit, HA, HB, hp1, HO, HF⟩ := hrel
    obtain ⟨o4, of0, of1, otk, omn⟩ := okF_head HO.out
    have hPs : P ≤ wr.heap.size := by have := HB.out.size; have := HPW.out; omega
    by_cases hp : pos < s.length
    · have hd : s.drop pos = s[pos] :: s.drop (pos + 1) := List.drop_eq_getElem_cons hp
      have hO := HO.out
      rw [hd] at hO
      obtain ⟨hb, hO2⟩ := okF_cons hO
      have hF := HF.out
      rw [hd, foldP] at hF
      have hnx : ∀ ty, (Instr.next (.pointer (some ⟨P + 1, 0, none⟩)) true ty).run Tryz.prog wr = _ := fun ty => Lib.run_next_ascii_at wr (P + 1) ⟨s.toArray⟩ pos ty hit (by rw [hsz]; exact hp) (by rw [bs_get]; exact hb)
      rw [bs_get] at hnx
      have hit2 := Lib.iterAt_heap wr (P + 1) ⟨s.toArray⟩ pos (pos + 1) hit
      have hA2 := HA.out.iter hit (pos + 1)
      have hB2 := Lib.below_iterAt HB.out (k := P + 1) (by omega) ⟨s.toArray⟩ (pos + 1)
      have hsz2 : P ≤ (wr.iterAt (P + 1) ⟨s.toArray⟩ (pos + 1)).heap.size := by rw [Lib.iterAt_size]; exact hPs
      have HST := hide (step_any hA2 pos (bI s[pos]) (by unfold bI; omega) (by unfold bI; omega) o4 of0 of1 (by omega) (by omega) hsz2 (by omega) (by omega))
      have HIT := hide hit
      have HI2 := hide hit2
      have HB2 := hide hB2
      have HZ2 := hide hsz2
      have HFF := hide hF
      have HOO := hide hO2
      clear hd hO hb hO2 hF hA2 hB2 hit hit2 hsz2 HO HF HA
      unfold bI at HST HFF HOO
      generalize stepP s x pos (s[pos].toNat : Int) = y at *
      generalize s[pos].toNat = r at *
      obtain ⟨y1, y2⟩ := y
      simp only at HST HFF HOO
      by_cases hy : y1 = 0
      · subst hy
        have HF2 := hide (HFF.out)
        rw [if_pos rfl] at HF2
        have HO2 := hide (HOO.out rfl)
        clear HFF HOO
        go_wp2_with (go_at_call 37; refine HST.out.mono ?_; rintro e w3 ⟨rfl, hA, hK, hS⟩; have HA3 := hide hA; have HK3 := hide hK; clear hA hK hS)
        have HI3 := hide (HK3.out.block' HI2.out (by omega) (fun c f e' => by cases e') (fun c f e' => by cases e'))
        have HB3 := hide (HB2.out.trans (HK3.out.to_below (Nat.le_refl _) HZ2.out))
        go_roundw
        case rel => exact ⟨pos + 1, y2, HI3.out, HA3, HB3, hp, HO2, HF2⟩
        case measure =>
          simp only [World.iterPos, HI3.out, HIT.out]
          omega
      · have hy1 : (y1 == 0) = false := by simp [hy]
        have HF2 := hide (HFF.out)
        rw [if_neg hy] at HF2
        have HSC : Hid (scanP s = .error (y1, y2.fr)) := by unfold Hid; rw [scan_fold hs HF2.out.symm, if_pos hy]
        clear HFF HOO
        go_wp2_with (go_at_call 37; refine HST.out.mono ?_; rintro e w3 ⟨rfl, hA, hK, hS⟩; obtain ⟨tv, ad, bv, hA⟩ := hA; obtain ⟨-, -, c3, -, -⟩ := hA.cells; have HK3 := hide hK; clear hA hK hS)
        have HB3 := hide (HB2.out.trans (HK3.out.to_below (Nat.le_refl _) HZ2.out))
        go_region
        all_goals
          go_wp2
          refine bodyPost_ret (by simp [results, Tryz.results16, go_sem]; rfl) rfl ?_
          refine ⟨?_, by have := HPW.out; rw [← this]; exact Below.drew HB3.out⟩
          unfold ScnP
          rw [HSC.out]
    · obtain rfl : pos = s.length := by omega
      have hnx : ∀ ty, (Instr.next (.pointer (some ⟨P + 1, 0, none⟩)) true ty).run Tryz.prog wr = _ := fun ty => Lib.run_next_end_at wr (P + 1) ⟨s.toArray⟩ s.length ty hit (by rw [hsz]; exact hp)
      have hF := HF.out
      rw [List.drop_length, foldP] at hF
      have HEN := hide (end_any HA.out o4 of0 of1 (by omega) hPs (by omega))
      have HSF := hide (scan_fold hs hF.symm)
      clear hF HF HO
      simp only at HSF
      generalize endP s x = y at *
      obtain ⟨y1, y2⟩ := y
      simp only at HEN HSF
      by_cases hy : y1 = 0
      · subst hy
        have HSC : Hid (scanP s = .ok y2.tk) := by unfold Hid; rw [HSF.out]; simp
        clear HSF
        go_wp2_with (go_at_call 38; refine HEN.out.mono ?_; rintro e w3 ⟨rfl, hA, hK, hS⟩; obtain ⟨tv, ad, bv, hA⟩ := hA; have c1 := cell_of_row _ _ 1 _ _ _ hA.blk; have HA3 := hide hA; have HK3 := hide hK; clear hA hK hS)
        have HB3 := hide (HB.out.trans (HK3.out.to_below (Nat.le_refl _) hPs))
        refine bodyPost_ret (by simp [results, Tryz.results16, go_sem]; rfl) rfl ?_
        refine ⟨?_, by have := HPW.out; rw [← this]; exact HB3.out⟩
        unfold ScnP
        rw [HSC.out]
        exact ⟨tv, rfl, by have := HPW.out; rw [← this]; exact HA3.out.tok⟩
      · have hy1 : (y1 == 0) = false := by simp [hy]
        have HSC : Hid (scanP s = .error (y1, y2.fr)) := by unfold Hid; rw [HSF.out]; simp [hy]
        clear HSF
        go_wp2_with (go_at_call 38; refine HEN.out.mono ?_; rintro e w3 ⟨rfl, hA, hK, hS⟩; obtain ⟨tv, ad, bv, hA⟩ := hA; obtain ⟨-, -, c3, -, -⟩ := hA.cells; have HK3 := hide hK; clear hA hK hS)
        have HB3 := hide (HB.out.trans (HK3.out.to_below (Nat.le_refl _) hPs))
        go_region
        all_goals
          go_wp2
          refine bodyPost_ret (by simp [results, Tryz.results16, go_sem]; rfl) rfl ?_
          refine ⟨?_, by have := HPW.out; rw [← this]; exact Below.drew HB3.out⟩
          unfold ScnP
          rw [HSC.out]
end Go.Proofs.YtlmhofjiobmodaaGreatDoor
