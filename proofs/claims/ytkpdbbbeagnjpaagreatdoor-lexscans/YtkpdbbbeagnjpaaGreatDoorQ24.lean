/-
  endPrefix, endRun of a run of digits by their contracts. Conditions: as endNumber's.
-/
import Derived.Test.YtkpdbbbeagnjpaaGreatDoorQ14
import Derived.Test.YtkpdbbbeagnjpaaGreatDoorQ23
import Derived.Test.YtkpdbbbeagnjpaaGreatDoorQ09
namespace Go.Proofs.YtkpdbbbeagnjpaaGreatDoor
open Go.RowKit Go.Lib

/-- A run of digits with points, as a prefix. -/
def endPfxP (x : SS) (run : By) : Int × SS := match pfxL run with | some (a, k) => (0, { x with tk := x.tk ++ [⟨5, [], 0, a, k, x.fr⟩] }) | none => (81, x)
/-- A run of digits. -/
def endDigP (x : SS) (run : By) : Int × SS := if 46 ∈ run ∨ 47 ∈ run then endPfxP x run else endNumP x run
section
variable {w : World} {base p : Nat} {s : By} {x : SS}
set_option maxHeartbeats 4000000 in
set_option maxRecDepth 100000 in
theorem endPrefix_any (h : ScA w base p s x) (run : By) (hrl : run.length ≤ 4294967296) (hb : base ≤ w.heap.size) (hl : x.tk.length ≤ 4294967296) :
    Calls Tryz.prog 53 #[.pointer (some ⟨p, 0, none⟩), .string ⟨run.toArray⟩] w fun e w' => ScE w base p s (endPfxP x run) e w' := by
  obtain ⟨tv, ad, bv, h⟩ := h
  have HH := hide h
  have HP := hide (parsePrefix_any run (by omega) w)
  clear h
  cases hpf : pfxL run with
  | none =>
    have HM : Hid (endPfxP x run = (81, x)) := by unfold Hid endPfxP; rw [hpf]
    unfold pfxA pfxB pfxE at HP
    rw [hpf] at HP
    simp only [Option.isSome_none, Bool.false_eq_true, if_false] at HP
    clear hpf
    generalize ((Option.getD none (0, 0) : Nat × Nat).1 : Int) = A at HP
    generalize ((Option.getD none (0, 0) : Nat × Nat).2 : Int) = B at HP
    go_enter Tryz.func53, Tryz.ntmps53
    go_wp2_with (go_at_call 64; refine HP.out.mono ?_; rintro e w1 ⟨rfl, x1⟩; have X1 := hide x1; clear x1)
    go_ret
    rw [HM.out]
    have X2 := al X1.out (.cells #[.int .i64 A, .int .i64 B] 38)
    exact ⟨rfl, ⟨_, _, _, HH.out.below X2⟩, KpT.of_below X2, X2.size⟩
  | some ab =>
    obtain ⟨a, b⟩ := ab
    have HM : Hid (endPfxP x run = (0, { x with tk := x.tk ++ [⟨5, [], 0, a, b, x.fr⟩] })) := by unfold Hid endPfxP; rw [hpf]
    unfold pfxA pfxB pfxE at HP
    rw [hpf] at HP
    simp only [Option.isSome_some, if_true, Option.getD_some] at HP
    clear hpf
    have HA := hide (fun (W : World) (y : Below w.heap.size w W) => (HH.out.below y).add ⟨5, [], 0, a, b, 0⟩ hl (Nat.le_trans hb y.size))
    unfold tkV at HA
    go_enter Tryz.func53, Tryz.ntmps53
    go_wp2_with (first | (go_at_call 64; refine HP.out.mono ?_; rintro e w1 ⟨rfl, x1⟩; have X1 := hide (al x1 (.cells #[.int .i64 a, .int .i64 b] 38)); have HA1 := hide (HA.out _ X1.out); clear x1) | (go_at_call 37; refine HA1.out.mono ?_; rintro e w2 ⟨rfl, hA, hK, hS⟩; have HA2 := hide hA; have HK2 := hide hK; have HS2 := hide hS; clear hA hK hS))
    go_ret
    rw [HM.out]
    exact ⟨rfl, HA2.out, (KpT.of_below X1.out).trans HK2.out, Nat.le_trans X1.out.size HS2.out⟩
theorem any_iff (run : By) : containsAny run [46, 47] = decide (46 ∈ run ∨ 47 ∈ run) := by
  unfold containsAny
  congr 1
  apply propext
  induction run with
  | nil => simp [indexAny]
  | cons b l ih =>
    have hg := indexAny_ge [46, 47] l
    unfold indexAny
    by_cases hb : b = 46 ∨ b = 47
    · rw [if_pos (by rcases hb with rfl | rfl <;> decide)]
      rcases hb with rfl | rfl <;> simp
    · have hb1 : ¬ b = 46 := fun e => hb (.inl e)
      have hb2 : ¬ b = 47 := fun e => hb (.inr e)
      rw [if_neg (by simp [hb1, hb2])]
      have e1 : (46 ∈ b :: l ∨ 47 ∈ b :: l) ↔ (46 ∈ l ∨ 47 ∈ l) := by
        simp only [List.mem_cons]
        constructor
        · rintro ((h | h) | (h | h))
          · exact absurd h.symm hb1
          · exact .inl h
          · exact absurd h.symm hb2
          · exact .inr h
        · rintro (h | h)
          · exact .inl (.inr h)
          · exact .inr (.inr h)
      rw [e1, ← ih]
      by_cases hi : indexAny l [46, 47] = -1
      · rw [hi]
        decide
      · rw [if_neg (by simpa using hi)]
        omega
set_option maxHeartbeats 4000000 in
set_option maxRecDepth 100000 in
theorem endDig_any (h : ScA w base p s x) (q : Int) (h4 : x.st = 4) (h0 : 0 ≤ x.fr) (h1 : x.fr < q) (hq : q ≤ s.length) (hs : s.length ≤ 8000) (hgo : ∀ c ∈ cutB s x.fr.toNat q.toNat, goB 4 (bI c) = true) (hev : ErrV base w) (hb : base ≤ w.heap.size) (hl : x.tk.length ≤ 4294967296) :
    Calls Tryz.prog 35 #[.pointer (some ⟨p, 0, none⟩), .int .i64 q] w fun e w' => ScE w base p s (endDigP x (cutB s x.fr.toNat q.toNat)) e w' := by
  obtain ⟨tv, ad, bv, h⟩ := h
  have hsz := bs_size s
  have HE := hide (ext_cut s x.fr.toNat q.toNat)
  obtain ⟨run, hrun⟩ : ∃ run, Hid (run = cutB s x.fr.toNat q.toNat) := ⟨_, rfl⟩
  rw [← hrun.out] at HE hgo ⊢
  have hlen : run.length = q.toNat - x.fr.toNat := by rw [hrun.out]; unfold cutB; simp; omega
  have hrl : run.length ≤ 8000 := by omega
  have hr : run ≠ [] := by intro e; rw [e] at hlen; simp at hlen; omega
  have HCL := hide (fun W => clone_any run W (by omega))
  have hgo' : ∀ c ∈ run, (48 ≤ c.toNat ∧ c.toNat ≤ 57) ∨ c = 46 ∨ c = 47 := fun c hc => by
    have := hgo c hc
    unfold goB dgB bI at this
    rw [if_neg (by decide), if_neg (by decide)] at this
    simp only [Bool.or_eq_true, Bool.and_eq_true, decide_eq_true_eq] at this
    rcases this with (h | h) | h
    · exact .inl (by omega)
    · exact .inr (.inl (UInt8.toNat_inj.1 (by show c.toNat = 46; omega)))
    · exact .inr (.inr (UInt8.toNat_inj.1 (by show c.toNat = 47; omega)))
  have has : ∀ (j : Nat) b, (⟨run.toArray⟩ : ByteArray).data.toList[j]? = some b → b.toNat < 128 := fun j b hj => by
    have hm : b ∈ run := List.mem_of_getElem? hj
    rcases hgo' b hm with h | rfl | rfl
    · omega
    · decide
    · decide
  have HAN : Hid (∀ W, Calls Tryz.prog 52 #[.string ⟨run.toArray⟩, .string ⟨#[46, 47]⟩] W fun e w' => e = .returned (.bool (decide (46 ∈ run ∨ 47 ∈ run))) ∧ Below W.heap.size W w') := fun W => by
    refine (Tryz.strings_ContainsAny_laid ⟨run.toArray⟩ ⟨#[46, 47]⟩ W (by rw [bs_size]; omega) (by decide) has (fun j b hj => ?_)).mono ?_
    · have hm : b ∈ [46, 47] := List.mem_of_getElem? hj
      simp at hm
      rcases hm with rfl | rfl <;> decide
    · rintro e w' ⟨rfl, x1⟩
      exact ⟨by rw [← any_iff], x1⟩
  have HC : Hid (∀ V, Below w.heap.size w V → ScA V base p s x ∧ V.cell? ⟨p, 0, none⟩ = some (.string ⟨s.toArray⟩) ∧ V.cell? ⟨p, 2, none⟩ = some (.int .i64 x.st) ∧ V.cell? ⟨p, 3, none⟩ = some (.int .i64 x.fr)) := fun V y => by
    have := h.below y
    obtain ⟨c0, c2, c3, _⟩ := this.cells
    exact ⟨⟨_, _, _, this⟩, c0, c2, c3⟩
  obtain ⟨-, c0, c2, c3⟩ := HC.out w (Below.refl _ _)
  have HX : Hid (∀ V, Below w.heap.size w V → Calls Tryz.prog (if 46 ∈ run ∨ 47 ∈ run then 53 else 54) #[.pointer (some ⟨p, 0, none⟩), .string ⟨run.toArray⟩] V fun e w' => ScE V base p s (endDigP x run) e w') := fun V y => by
    unfold endDigP
    by_cases hc : 46 ∈ run ∨ 47 ∈ run
    · rw [if_pos hc, if_pos hc]
      exact endPrefix_any (HC.out V y).1 run (by omega) (Nat.le_trans hb y.size) hl
    · rw [if_neg hc, if_neg hc]
      refine endNumber_any (HC.out V y).1 run hr (fun c hcm => ?_) (by omega) (hev.below (y.mono hb)) (Nat.le_trans hb y.size) hl
      rcases hgo' c hcm with h | rfl | rfl
      · exact h
      · exact absurd (.inl hcm) hc
      · exact absurd (.inr hcm) hc
  clear h hgo hgo' has hr hlen hev
  rw [h4] at c2
  have h1' : x.fr ≤ q := by omega
  by_cases hc : 46 ∈ run ∨ 47 ∈ run
  all_goals
    first | rw [if_pos hc] at HX | rw [if_neg hc] at HX
    have hdc : ∀ b, decide (46 ∈ run ∨ 47 ∈ run) = b → Hid (∀ W, Calls Tryz.prog 52 #[.string ⟨run.toArray⟩, .string ⟨#[46, 47]⟩] W fun e w' => e = .returned (.bool b) ∧ Below W.heap.size W w') := fun b e => by rw [e] at HAN; exact HAN
    first | (have HAN2 := hdc true (decide_eq_true hc)) | (have HAN2 := hdc false (decide_eq_false hc))
    clear hdc HAN hc
    go_enter Tryz.func35, Tryz.ntmps35
    go_upto_region 1 with fail
    go_region_with (go_at_call 49; rw [HE.out]; refine (HCL.out _).mono ?_; rintro e w1 ⟨rfl, x1⟩; have X1 := hide (bt (Below.drew (Below.refl w.heap.size w)) x1 (Nat.le_refl _)); clear x1)
    all_goals
      obtain ⟨-, d0, d2, d3⟩ := HC.out w1 X1.out
      rw [h4] at d2
      clear c0 c2 c3
      go_wp2_with (first | (go_at_call 52; refine (HAN2.out _).mono ?_; rintro e w2 ⟨rfl, x2⟩; have X2 := hide (bt X1.out x2 (Nat.le_refl _)); have HX2 := hide (HX.out w2 X2.out); clear x2) | (go_at_call 53; refine HX2.out.mono ?_; rintro e w3 ⟨rfl, hA, hK, hS⟩; have HA3 := hide hA; have HK3 := hide hK; have HS3 := hide hS; clear hA hK hS) | (go_at_call 54; refine HX2.out.mono ?_; rintro e w3 ⟨rfl, hA, hK, hS⟩; have HA3 := hide hA; have HK3 := hide hK; have HS3 := hide hS; clear hA hK hS))
      go_ret
      exact ⟨rfl, HA3.out, (KpT.of_below X2.out).trans HK3.out, Nat.le_trans X2.out.size HS3.out⟩
end
end Go.Proofs.YtkpdbbbeagnjpaaGreatDoor
/-
  The scanner's step and end by their contracts, of any rune and in any state. Conditions: what the scanner is in began within the source; the library's ErrRange reads as its text lays it.
-/
namespace Go.Proofs.YtkpdbbbeagnjpaaGreatDoor
open Go.RowKit Go.Lib

/-- One rune at a place. -/
def stepQ (s : By) (x : SS) (q r : Int) : Int × SS :=
  if x.st = 4 then
    if goB 4 r = true then (0, x)
    else if (endDigP x (cutB s x.fr.toNat q.toNat)).1 = 0 then beginP (endDigP x (cutB s x.fr.toNat q.toNat)).2 q r else endDigP x (cutB s x.fr.toNat q.toNat)
  else stepP s x q r
/-- The source's end. -/
def endQ (s : By) (x : SS) : Int × SS :=
  if x.st = 4 then
    if (endDigP x (cutB s x.fr.toNat s.length)).1 = 0 then (0, { (endDigP x (cutB s x.fr.toNat s.length)).2 with fr := s.length, tk := (endDigP x (cutB s x.fr.toNat s.length)).2.tk ++ [⟨8, [], 0, 0, 0, s.length⟩] }) else endDigP x (cutB s x.fr.toNat s.length)
  else endP s x
theorem endDig_tk (x : SS) (run : By) : ((endDigP x run).1 = 0 ∧ (endDigP x run).2.st = x.st ∧ (endDigP x run).2.mn = x.mn ∧ (endDigP x run).2.fr = x.fr ∧ (endDigP x run).2.tk.length = x.tk.length + 1) ∨ endDigP x run = (81, x) := by
  unfold endDigP
  split
  · unfold endPfxP
    cases pfxL run with
    | none => exact .inr rfl
    | some ab => exact .inl ⟨rfl, rfl, rfl, rfl, by simp⟩
  · unfold endNumP
    cases numB run with
    | none => exact .inr rfl
    | some u => exact .inl ⟨rfl, rfl, rfl, rfl, by simp⟩
section
variable {w : World} {base p : Nat} {s : By} {x : SS}
set_option maxHeartbeats 4000000 in
set_option maxRecDepth 100000 in
theorem stepAll_any (h : ScA w base p s x) (q r : Int) (h0 : 0 ≤ r) (h4 : x.st ≠ 4) (hf0 : 0 ≤ x.fr) (hf1 : x.fr ≤ q) (hq : q ≤ s.length) (hs : s.length ≤ 4294967296) (hb : base ≤ w.heap.size) (hl : x.tk.length ≤ 4294967295) (hm : x.mn.length ≤ 4294967296) :
    Calls Tryz.prog 19 #[.pointer (some ⟨p, 0, none⟩), .int .i64 q, .int .i32 r] w fun e w' => ScE w base p s (stepP s x q r) e w' := by
  have HA := hide h
  obtain ⟨tv, ad, bv, h⟩ := h
  obtain ⟨-, c2, -, f2, -⟩ := h.cells
  have HH := hide h
  clear h
  by_cases e1 : x.st = 1
  · rw [e1] at c2
    by_cases h10 : r = 10
    · subst h10
      have HM : Hid (stepP s x q 10 = (0, { x with st := 0 })) := by unfold Hid stepP; rw [if_pos e1, if_pos rfl]
      go_enter Tryz.func19, Tryz.ntmps19
      go_wp2
      go_ret
      rw [HM.out]
      obtain ⟨s4, k4⟩ := HH.out.setSt 0
      exact ⟨rfl, ⟨_, _, _, s4⟩, k4, k4.size⟩
    · have e10 : (r == 10) = false := by simp [h10]
      have HM : Hid (stepP s x q r = (0, x)) := by unfold Hid stepP; rw [if_pos e1, if_neg h10]
      go_enter Tryz.func19, Tryz.ntmps19
      go_wp2
      go_ret
      rw [HM.out]
      exact ⟨rfl, HA.out, KpT.refl _ _ _, Nat.le_refl _⟩
  · have g1 : (x.st == 1) = false := by simp [e1]
    by_cases e5 : x.st = 5
    · have HM : Hid (stepP s x q r = stepTextP x r) := by unfold Hid stepP; rw [if_neg e1, if_pos e5]
      rw [e5] at c2
      have HX := hide (stepText_any HA.out r hb hm (by omega))
      clear g1
      go_enter Tryz.func19, Tryz.ntmps19
      go_wp2_with (go_at_call 33; refine HX.out.mono ?_; rintro e w2 ⟨rfl, hA, hK, hS⟩; have HA2 := hide hA; have HK2 := hide hK; have HS2 := hide hS; clear hA hK hS)
      go_ret
      rw [HM.out]
      exact ⟨rfl, HA2.out, HK2.out, HS2.out⟩
    · have g5 : (x.st == 5) = false := by simp [e5]
      by_cases e6 : x.st = 6
      · have HM : Hid (stepP s x q r = stepEscP x r) := by unfold Hid stepP; rw [if_neg e1, if_neg e5, if_pos e6]
        rw [e6] at c2
        have HX := hide (stepEsc_any HA.out r hb hm)
        clear g1 g5
        go_enter Tryz.func19, Tryz.ntmps19
        go_wp2_with (go_at_call 34; refine HX.out.mono ?_; rintro e w2 ⟨rfl, hA, hK, hS⟩; have HA2 := hide hA; have HK2 := hide hK; have HS2 := hide hS; clear hA hK hS)
        go_ret
        rw [HM.out]
        exact ⟨rfl, HA2.out, HK2.out, HS2.out⟩
      · have g6 : (x.st == 6) = false := by simp [e6]
        by_cases e23 : x.st = 2 ∨ x.st = 3
        · have HG := hide (fun W => goesOn_any x.st r W)
          cases hg : goB x.st r with
          | true =>
            have HM : Hid (stepP s x q r = (0, x)) := by unfold Hid stepP; rw [if_neg e1, if_neg e5, if_neg e6, if_pos e23, if_pos hg]
            rw [hg] at HG
            clear hg
            rcases e23 with e2 | e2
            all_goals
              rw [e2] at c2 HG
              clear g1 g5 g6
              go_enter Tryz.func19, Tryz.ntmps19
              go_wp2_with (go_at_call 29; refine (HG.out _).mono ?_; rintro e wz ⟨rfl, hwz⟩; have hwz := hwz.symm; subst hwz)
              go_ret
              rw [HM.out]
              exact ⟨rfl, HA.out, KpT.refl _ _ _, Nat.le_refl _⟩
          | false =>
            have HM : Hid (stepP s x q r = if (endRunP s x q).1 = 0 then beginP (endRunP s x q).2 q r else endRunP s x q) := by unfold Hid stepP; rw [if_neg e1, if_neg e5, if_neg e6, if_pos e23, if_neg (by simp [hg])]
            rw [hg] at HG
            have HX := hide (endRun_any HA.out q e23 hf0 hf1 hq hs hb (by omega))
            obtain ⟨ht, hy⟩ := endRun_tk s x q
            clear hg
            generalize endRunP s x q = y at *
            obtain ⟨y1, y2⟩ := y
            simp only at HM HX ht hy
            have HB : Hid (∀ W, ScA W base p s y2 → base ≤ W.heap.size → Calls Tryz.prog 36 #[.pointer (some ⟨p, 0, none⟩), .int .i64 q, .int .i32 r] W fun e w' => ScE W base p s (beginP y2 q r) e w') := fun W hW hz => begin_all hW q r h0 hz (by omega)
            rcases hy with rfl | rfl
            · rw [if_pos rfl] at HM
              rcases e23 with e2 | e2
              all_goals
                rw [e2] at c2 HG
                clear g1 g5 g6
                go_enter Tryz.func19, Tryz.ntmps19
                go_wp2_with (first | (go_at_call 29; refine (HG.out _).mono ?_; rintro e wz ⟨rfl, hwz⟩; have hwz := hwz.symm; subst hwz) | (go_at_call 35; refine HX.out.mono ?_; rintro e w2 ⟨rfl, hA, hK, hS⟩; have HB2 := hide (HB.out w2 hA (by omega)); have HK2 := hide hK; have HS2 := hide hS; clear hA hK hS) | (go_at_call 36; refine HB2.out.mono ?_; rintro e w3 ⟨rfl, hA, hK, hS⟩; have HA3 := hide hA; have HK3 := hide hK; have HS3 := hide hS; clear hA hK hS))
                go_ret
                rw [HM.out]
                exact ⟨rfl, HA3.out, HK2.out.trans HK3.out, Nat.le_trans HS2.out HS3.out⟩
            · rw [if_neg (by decide)] at HM
              rcases e23 with e2 | e2
              all_goals
                rw [e2] at c2 HG
                clear g1 g5 g6
                go_enter Tryz.func19, Tryz.ntmps19
                go_wp2_with (first | (go_at_call 29; refine (HG.out _).mono ?_; rintro e wz ⟨rfl, hwz⟩; have hwz := hwz.symm; subst hwz) | (go_at_call 35; refine HX.out.mono ?_; rintro e w2 ⟨rfl, hA, hK, hS⟩; have HA2 := hide hA; have HK2 := hide hK; have HS2 := hide hS; clear hA hK hS))
                go_ret
                rw [HM.out]
                exact ⟨rfl, HA2.out, HK2.out, HS2.out⟩
        · have HM : Hid (stepP s x q r = beginP x q r) := by unfold Hid stepP; rw [if_neg e1, if_neg e5, if_neg e6, if_neg e23]
          have g2 : (x.st == 2) = false := by simp; omega
          have g3 : (x.st == 3) = false := by simp; omega
          have g4 : (x.st == 4) = false := by simp [h4]
          have n1 : ¬ x.st = 2 := by omega
          have n2 : ¬ x.st = 3 := by omega
          have HX := hide (begin_all HA.out q r h0 hb (by omega))
          go_enter Tryz.func19, Tryz.ntmps19
          go_wp2_with (go_at_call 36; refine HX.out.mono ?_; rintro e w2 ⟨rfl, hA, hK, hS⟩; have HA2 := hide hA; have HK2 := hide hK; have HS2 := hide hS; clear hA hK hS)
          go_ret
          rw [HM.out]
          exact ⟨rfl, HA2.out, HK2.out, HS2.out⟩
set_option maxHeartbeats 4000000 in
set_option maxRecDepth 100000 in
theorem stepD_any (h : ScA w base p s x) (q r : Int) (h0 : 0 ≤ r) (h4 : x.st = 4) (hf0 : 0 ≤ x.fr) (hf1 : x.fr < q) (hq : q ≤ s.length) (hs : s.length ≤ 8000) (hgo : ∀ c ∈ cutB s x.fr.toNat q.toNat, goB 4 (bI c) = true) (hev : ErrV base w) (hb : base ≤ w.heap.size) (hl : x.tk.length ≤ 4294967295) :
    Calls Tryz.prog 19 #[.pointer (some ⟨p, 0, none⟩), .int .i64 q, .int .i32 r] w fun e w' => ScE w base p s (stepQ s x q r) e w' := by
  have HA := hide h
  obtain ⟨tv, ad, bv, h⟩ := h
  obtain ⟨-, c2, -, f2, -⟩ := h.cells
  clear h
  rw [h4] at c2
  have HG := hide (fun W => goesOn_any 4 r W)
  cases hg : goB 4 r with
  | true =>
    have HM : Hid (stepQ s x q r = (0, x)) := by unfold Hid stepQ; rw [if_pos h4, if_pos hg]
    rw [hg] at HG
    clear hg
    go_enter Tryz.func19, Tryz.ntmps19
    go_wp2_with (go_at_call 29; refine (HG.out _).mono ?_; rintro e wz ⟨rfl, hwz⟩; have hwz := hwz.symm; subst hwz)
    go_ret
    rw [HM.out]
    exact ⟨rfl, HA.out, KpT.refl _ _ _, Nat.le_refl _⟩
  | false =>
    have HM : Hid (stepQ s x q r = if (endDigP x (cutB s x.fr.toNat q.toNat)).1 = 0 then beginP (endDigP x (cutB s x.fr.toNat q.toNat)).2 q r else endDigP x (cutB s x.fr.toNat q.toNat)) := by unfold Hid stepQ; rw [if_pos h4, if_neg (by simp [hg])]
    rw [hg] at HG
    have HX := hide (endDig_any HA.out q h4 hf0 hf1 hq hs hgo hev hb (by omega))
    have ht := endDig_tk x (cutB s x.fr.toNat q.toNat)
    clear hg hgo
    generalize endDigP x (cutB s x.fr.toNat q.toNat) = y at *
    obtain ⟨y1, y2⟩ := y
    simp only at HM HX ht
    rcases ht with ⟨rfl, -, -, -, ht⟩ | ht
    · have HB : Hid (∀ W, ScA W base p s y2 → base ≤ W.heap.size → Calls Tryz.prog 36 #[.pointer (some ⟨p, 0, none⟩), .int .i64 q, .int .i32 r] W fun e w' => ScE W base p s (beginP y2 q r) e w') := fun W hW hz => begin_all hW q r h0 hz (by omega)
      rw [if_pos rfl] at HM
      go_enter Tryz.func19, Tryz.ntmps19
      go_wp2_with (first | (go_at_call 29; refine (HG.out _).mono ?_; rintro e wz ⟨rfl, hwz⟩; have hwz := hwz.symm; subst hwz) | (go_at_call 35; refine HX.out.mono ?_; rintro e w2 ⟨rfl, hA, hK, hS⟩; have HB2 := hide (HB.out w2 hA (by omega)); have HK2 := hide hK; have HS2 := hide hS; clear hA hK hS) | (go_at_call 36; refine HB2.out.mono ?_; rintro e w3 ⟨rfl, hA, hK, hS⟩; have HA3 := hide hA; have HK3 := hide hK; have HS3 := hide hS; clear hA hK hS))
      go_ret
      rw [HM.out]
      exact ⟨rfl, HA3.out, HK2.out.trans HK3.out, Nat.le_trans HS2.out HS3.out⟩
    · obtain ⟨rfl, hy2⟩ := Prod.mk.inj ht
      have HY := hide hy2
      clear ht hy2
      rw [if_neg (by decide)] at HM
      go_enter Tryz.func19, Tryz.ntmps19
      go_wp2_with (first | (go_at_call 29; refine (HG.out _).mono ?_; rintro e wz ⟨rfl, hwz⟩; have hwz := hwz.symm; subst hwz) | (go_at_call 35; refine HX.out.mono ?_; rintro e w2 ⟨rfl, hA, hK, hS⟩; have HA2 := hide hA; have HK2 := hide hK; have HS2 := hide hS; clear hA hK hS))
      go_ret
      rw [HM.out]
      exact ⟨rfl, HA2.out, HK2.out, HS2.out⟩
end
end Go.Proofs.YtkpdbbbeagnjpaaGreatDoor
