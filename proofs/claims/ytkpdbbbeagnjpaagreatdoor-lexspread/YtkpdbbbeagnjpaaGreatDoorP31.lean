/-
  The scanner's step and end by their contracts, of any rune and in any state. Conditions: what the scanner is in began within the source; the library's ErrRange reads as its text lays it.
-/
import Derived.Test.YtkpdbbbeagnjpaaGreatDoorP13
import Derived.Test.YtkpdbbbeagnjpaaGreatDoorP30
namespace Go.Proofs.YtkpdbbbeagnjpaaGreatDoor
open Go.RowKit Go.Lib

/-- One rune at a place. -/
def stepQ (s : By) (x : SS) (q r : Int) : Int × SS :=
  if x.st = 4 then
    if goB 4 r = true then (0, x)
    else if (endDigP x (cutB s x.fr.toNat q.toNat)).1 = 0 then beginP (endDigP x (cutB s x.fr.toNat q.toNat)).2 q r else endDigP x (cutB s x.fr.toNat q.toNat)
  else stepP s x q r
/-- The source's end. -/
def endQ (s : By) (x : SS) : Int × SS :=
  if x.st = 4 then
    if (endDigP x (cutB s x.fr.toNat s.length)).1 = 0 then (0, { (endDigP x (cutB s x.fr.toNat s.length)).2 with fr := s.length, tk := (endDigP x (cutB s x.fr.toNat s.length)).2.tk ++ [⟨8, [], 0, 0, 0, s.length⟩] }) else endDigP x (cutB s x.fr.toNat s.length)
  else endP s x
theorem endDig_tk (x : SS) (run : By) : ((endDigP x run).1 = 0 ∧ (endDigP x run).2.st = x.st ∧ (endDigP x run).2.mn = x.mn ∧ (endDigP x run).2.fr = x.fr ∧ (endDigP x run).2.tk.length = x.tk.length + 1) ∨ endDigP x run = (81, x) := by
  unfold endDigP
  split
  · unfold endPfxP
    cases pfxL run with
    | none => exact .inr rfl
    | some ab => exact .inl ⟨rfl, rfl, rfl, rfl, by simp⟩
  · unfold endNumP
    cases numB run with
    | none => exact .inr rfl
    | some u => exact .inl ⟨rfl, rfl, rfl, rfl, by simp⟩
section
variable {w : World} {base p : Nat} {s : By} {x : SS}
set_option maxHeartbeats 4000000 in
set_option maxRecDepth 100000 in
theorem stepAll_any (h : ScA w base p s x) (q r : Int) (h0 : 0 ≤ r) (h4 : x.st ≠ 4) (hf0 : 0 ≤ x.fr) (hf1 : x.fr ≤ q) (hq : q ≤ s.length) (hs : s.length ≤ 4294967296) (hb : base ≤ w.heap.size) (hl : x.tk.length ≤ 4294967295) (hm : x.mn.length ≤ 4294967296) :
    Calls Tryz.prog 19 #[.pointer (some ⟨p, 0, none⟩), .int .i64 q, .int .i32 r] w fun e w' => ScE w base p s (stepP s x q r) e w' := by
  have HA := hide h
  obtain ⟨tv, ad, bv, h⟩ := h
  obtain ⟨-, c2, -, f2, -⟩ := h.cells
  have HH := hide h
  clear h
  by_cases e1 : x.st = 1
  · rw [e1] at c2
    by_cases h10 : r = 10
    · subst h10
      have HM : Hid (stepP s x q 10 = (0, { x with st := 0 })) := by unfold Hid stepP; rw [if_pos e1, if_pos rfl]
      go_enter Tryz.func19, Tryz.ntmps19
      go_wp2
      go_ret
      rw [HM.out]
      obtain ⟨s4, k4⟩ := HH.out.setSt 0
      exact ⟨rfl, ⟨_, _, _, s4⟩, k4, k4.size⟩
    · have e10 : (r == 10) = false := by simp [h10]
      have HM : Hid (stepP s x q r = (0, x)) := by unfold Hid stepP; rw [if_pos e1, if_neg h10]
      go_enter Tryz.func19, Tryz.ntmps19
      go_wp2
      go_ret
      rw [HM.out]
      exact ⟨rfl, HA.out, KpT.refl _ _ _, Nat.le_refl _⟩
  · have g1 : (x.st == 1) = false := by simp [e1]
    by_cases e5 : x.st = 5
    · have HM : Hid (stepP s x q r = stepTextP x r) := by unfold Hid stepP; rw [if_neg e1, if_pos e5]
      rw [e5] at c2
      have HX := hide (stepText_any HA.out r hb hm (by omega))
      clear g1
      go_enter Tryz.func19, Tryz.ntmps19
      go_wp2_with (go_at_call 33; refine HX.out.mono ?_; rintro e w2 ⟨rfl, hA, hK, hS⟩; have HA2 := hide hA; have HK2 := hide hK; have HS2 := hide hS; clear hA hK hS)
      go_ret
      rw [HM.out]
      exact ⟨rfl, HA2.out, HK2.out, HS2.out⟩
    · have g5 : (x.st == 5) = false := by simp [e5]
      by_cases e6 : x.st = 6
      · have HM : Hid (stepP s x q r = stepEscP x r) := by unfold Hid stepP; rw [if_neg e1, if_neg e5, if_pos e6]
        rw [e6] at c2
        have HX := hide (stepEsc_any HA.out r hb hm)
        clear g1 g5
        go_enter Tryz.func19, Tryz.ntmps19
        go_wp2_with (go_at_call 34; refine HX.out.mono ?_; rintro e w2 ⟨rfl, hA, hK, hS⟩; have HA2 := hide hA; have HK2 := hide hK; have HS2 := hide hS; clear hA hK hS)
        go_ret
        rw [HM.out]
        exact ⟨rfl, HA2.out, HK2.out, HS2.out⟩
      · have g6 : (x.st == 6) = false := by simp [e6]
        by_cases e23 : x.st = 2 ∨ x.st = 3
        · have HG := hide (fun W => goesOn_any x.st r W)
          cases hg : goB x.st r with
          | true =>
            have HM : Hid (stepP s x q r = (0, x)) := by unfold Hid stepP; rw [if_neg e1, if_neg e5, if_neg e6, if_pos e23, if_pos hg]
            rw [hg] at HG
            clear hg
            rcases e23 with e2 | e2
            all_goals
              rw [e2] at c2 HG
              clear g1 g5 g6
              go_enter Tryz.func19, Tryz.ntmps19
              go_wp2_with (go_at_call 29; refine (HG.out _).mono ?_; rintro e wz ⟨rfl, hwz⟩; have hwz := hwz.symm; subst hwz)
              go_ret
              rw [HM.out]
              exact ⟨rfl, HA.out, KpT.refl _ _ _, Nat.le_refl _⟩
          | false =>
            have HM : Hid (stepP s x q r = if (endRunP s x q).1 = 0 then beginP (endRunP s x q).2 q r else endRunP s x q) := by unfold Hid stepP; rw [if_neg e1, if_neg e5, if_neg e6, if_pos e23, if_neg (by simp [hg])]
            rw [hg] at HG
            have HX := hide (endRun_any HA.out q e23 hf0 hf1 hq hs hb (by omega))
            obtain ⟨ht, hy⟩ := endRun_tk s x q
            clear hg
            generalize endRunP s x q = y at *
            obtain ⟨y1, y2⟩ := y
            simp only at HM HX ht hy
            have HB : Hid (∀ W, ScA W base p s y2 → base ≤ W.heap.size → Calls Tryz.prog 36 #[.pointer (some ⟨p, 0, none⟩), .int .i64 q, .int .i32 r] W fun e w' => ScE W base p s (beginP y2 q r) e w') := fun W hW hz => begin_all hW q r h0 hz (by omega)
            rcases hy with rfl | rfl
            · rw [if_pos rfl] at HM
              rcases e23 with e2 | e2
              all_goals
                rw [e2] at c2 HG
                clear g1 g5 g6
                go_enter Tryz.func19, Tryz.ntmps19
                go_wp2_with (first | (go_at_call 29; refine (HG.out _).mono ?_; rintro e wz ⟨rfl, hwz⟩; have hwz := hwz.symm; subst hwz) | (go_at_call 35; refine HX.out.mono ?_; rintro e w2 ⟨rfl, hA, hK, hS⟩; have HB2 := hide (HB.out w2 hA (by omega)); have HK2 := hide hK; have HS2 := hide hS; clear hA hK hS) | (go_at_call 36; refine HB2.out.mono ?_; rintro e w3 ⟨rfl, hA, hK, hS⟩; have HA3 := hide hA; have HK3 := hide hK; have HS3 := hide hS; clear hA hK hS))
                go_ret
                rw [HM.out]
                exact ⟨rfl, HA3.out, HK2.out.trans HK3.out, Nat.le_trans HS2.out HS3.out⟩
            · rw [if_neg (by decide)] at HM
              rcases e23 with e2 | e2
              all_goals
                rw [e2] at c2 HG
                clear g1 g5 g6
                go_enter Tryz.func19, Tryz.ntmps19
                go_wp2_with (first | (go_at_call 29; refine (HG.out _).mono ?_; rintro e wz ⟨rfl, hwz⟩; have hwz := hwz.symm; subst hwz) | (go_at_call 35; refine HX.out.mono ?_; rintro e w2 ⟨rfl, hA, hK, hS⟩; have HA2 := hide hA; have HK2 := hide hK; have HS2 := hide hS; clear hA hK hS))
                go_ret
                rw [HM.out]
                exact ⟨rfl, HA2.out, HK2.out, HS2.out⟩
        · have HM : Hid (stepP s x q r = beginP x q r) := by unfold Hid stepP; rw [if_neg e1, if_neg e5, if_neg e6, if_neg e23]
          have g2 : (x.st == 2) = false := by simp; omega
          have g3 : (x.st == 3) = false := by simp; omega
          have g4 : (x.st == 4) = false := by simp [h4]
          have n1 : ¬ x.st = 2 := by omega
          have n2 : ¬ x.st = 3 := by omega
          have HX := hide (begin_all HA.out q r h0 hb (by omega))
          go_enter Tryz.func19, Tryz.ntmps19
          go_wp2_with (go_at_call 36; refine HX.out.mono ?_; rintro e w2 ⟨rfl, hA, hK, hS⟩; have HA2 := hide hA; have HK2 := hide hK; have HS2 := hide hS; clear hA hK hS)
          go_ret
          rw [HM.out]
          exact ⟨rfl, HA2.out, HK2.out, HS2.out⟩
set_option maxHeartbeats 4000000 in
set_option maxRecDepth 100000 in
theorem stepD_any (h : ScA w base p s x) (q r : Int) (h0 : 0 ≤ r) (h4 : x.st = 4) (hf0 : 0 ≤ x.fr) (hf1 : x.fr < q) (hq : q ≤ s.length) (hs : s.length ≤ 8000) (hgo : ∀ c ∈ cutB s x.fr.toNat q.toNat, goB 4 (bI c) = true) (hev : ErrV base w) (hb : base ≤ w.heap.size) (hl : x.tk.length ≤ 4294967295) :
    Calls Tryz.prog 19 #[.pointer (some ⟨p, 0, none⟩), .int .i64 q, .int .i32 r] w fun e w' => ScE w base p s (stepQ s x q r) e w' := by
  have HA := hide h
  obtain ⟨tv, ad, bv, h⟩ := h
  obtain ⟨-, c2, -, f2, -⟩ := h.cells
  clear h
  rw [h4] at c2
  have HG := hide (fun W => goesOn_any 4 r W)
  cases hg : goB 4 r with
  | true =>
    have HM : Hid (stepQ s x q r = (0, x)) := by unfold Hid stepQ; rw [if_pos h4, if_pos hg]
    rw [hg] at HG
    clear hg
    go_enter Tryz.func19, Tryz.ntmps19
    go_wp2_with (go_at_call 29; refine (HG.out _).mono ?_; rintro e wz ⟨rfl, hwz⟩; have hwz := hwz.symm; subst hwz)
    go_ret
    rw [HM.out]
    exact ⟨rfl, HA.out, KpT.refl _ _ _, Nat.le_refl _⟩
  | false =>
    have HM : Hid (stepQ s x q r = if (endDigP x (cutB s x.fr.toNat q.toNat)).1 = 0 then beginP (endDigP x (cutB s x.fr.toNat q.toNat)).2 q r else endDigP x (cutB s x.fr.toNat q.toNat)) := by unfold Hid stepQ; rw [if_pos h4, if_neg (by simp [hg])]
    rw [hg] at HG
    have HX := hide (endDig_any HA.out q h4 hf0 hf1 hq hs hgo hev hb (by omega))
    have ht := endDig_tk x (cutB s x.fr.toNat q.toNat)
    clear hg hgo
    generalize endDigP x (cutB s x.fr.toNat q.toNat) = y at *
    obtain ⟨y1, y2⟩ := y
    simp only at HM HX ht
    rcases ht with ⟨rfl, -, -, -, ht⟩ | ht
    · have HB : Hid (∀ W, ScA W base p s y2 → base ≤ W.heap.size → Calls Tryz.prog 36 #[.pointer (some ⟨p, 0, none⟩), .int .i64 q, .int .i32 r] W fun e w' => ScE W base p s (beginP y2 q r) e w') := fun W hW hz => begin_all hW q r h0 hz (by omega)
      rw [if_pos rfl] at HM
      go_enter Tryz.func19, Tryz.ntmps19
      go_wp2_with (first | (go_at_call 29; refine (HG.out _).mono ?_; rintro e wz ⟨rfl, hwz⟩; have hwz := hwz.symm; subst hwz) | (go_at_call 35; refine HX.out.mono ?_; rintro e w2 ⟨rfl, hA, hK, hS⟩; have HB2 := hide (HB.out w2 hA (by omega)); have HK2 := hide hK; have HS2 := hide hS; clear hA hK hS) | (go_at_call 36; refine HB2.out.mono ?_; rintro e w3 ⟨rfl, hA, hK, hS⟩; have HA3 := hide hA; have HK3 := hide hK; have HS3 := hide hS; clear hA hK hS))
      go_ret
      rw [HM.out]
      exact ⟨rfl, HA3.out, HK2.out.trans HK3.out, Nat.le_trans HS2.out HS3.out⟩
    · obtain ⟨rfl, hy2⟩ := Prod.mk.inj ht
      have HY := hide hy2
      clear ht hy2
      rw [if_neg (by decide)] at HM
      go_enter Tryz.func19, Tryz.ntmps19
      go_wp2_with (first | (go_at_call 29; refine (HG.out _).mono ?_; rintro e wz ⟨rfl, hwz⟩; have hwz := hwz.symm; subst hwz) | (go_at_call 35; refine HX.out.mono ?_; rintro e w2 ⟨rfl, hA, hK, hS⟩; have HA2 := hide hA; have HK2 := hide hK; have HS2 := hide hS; clear hA hK hS))
      go_ret
      rw [HM.out]
      exact ⟨rfl, HA2.out, HK2.out, HS2.out⟩
end
end Go.Proofs.YtkpdbbbeagnjpaaGreatDoor
