/-
  The document's numbered by its contract. Condition: as number's.
-/
import Derived.Test.YtkpdbbbeagnjpaaGreatDoorQ34
import Derived.Test.YtkpdbbbeagnjpaaGreatDoorQ38
import Derived.Test.YtkpdbbbeagnjpaaGreatDoorQ32
namespace Go.Proofs.YtkpdbbbeagnjpaaGreatDoor
open Go.RowKit Go.Lib

/-- A run of digits as a token. -/
def digTok (run : By) : Option Tk := match numB run with
  | some u => some ⟨4, [], u, 0, 0, 0⟩
  | none => if 46 ∈ run ∨ 47 ∈ run then (pfxL run).map fun p => ⟨5, [], 0, p.1, p.2, 0⟩ else none
/-- What numbered tells. -/
def NbD (run : By) (e : Ending) : Prop := ∃ y : Tk, e = .returned (.tuple #[.agg (tkV y), .bool (digTok run).isSome]) ∧ ∀ z, digTok run = some z → y = z
set_option maxHeartbeats 1000000 in
set_option maxRecDepth 100000 in
theorem numbered_num (run : By) (hs : run ≠ []) (hl : run.length ≤ 140737488351232) (u : Nat) (hu : numB run = some u) (w : World) : Calls Tryz.prog 40 #[.string ⟨run.toArray⟩] w fun e w' => NbD run e ∧ Below w.heap.size w w' := by
  have HN : Hid (∀ W, Calls Tryz.prog 57 #[.string ⟨run.toArray⟩] W fun e w' => e = .returned (.tuple #[.int .i64 u, .bool true]) ∧ w' = W) := fun W => by
    refine (number_any run hs hl W).mono ?_
    rintro e w' ⟨⟨x, rfl, h2⟩, rfl⟩
    rw [hu] at h2 ⊢
    rw [h2 u rfl]
    exact ⟨rfl, rfl⟩
  have HR : Hid (digTok run = some ⟨4, [], u, 0, 0, 0⟩) := by unfold Hid digTok; rw [hu]
  clear hu
  go_enter Tryz.func40, Tryz.ntmps40
  go_wp2_with (go_at_call 57; refine (HN.out _).mono ?_; rintro e w1 ⟨rfl, hw1⟩; have hw1 := hw1.symm; subst hw1)
  obtain ⟨r0, r1, r2, r3, r4, r5⟩ := six_get (heap_alloc_new w (.cells #[.int .i64 4, .string ⟨#[]⟩, .int .i64 (u : Int), .int .i64 0, .int .i64 0, .int .i64 0] 40))
  refine bodyPost_ret (by simp [results, Tryz.results40, go_sem, r0, r1, r2, r3, r4, r5]; try rfl) rfl ?_
  exact ⟨⟨⟨4, [], u, 0, 0, 0⟩, by rw [HR.out]; rfl, fun z hz => by rw [HR.out] at hz; exact Option.some.inj hz⟩, al (Below.refl _ _) _⟩
set_option maxHeartbeats 1000000 in
set_option maxRecDepth 100000 in
theorem numbered_pfx (run : By) (hs : run ≠ []) (hl : run.length ≤ 140737488351232) (hu : numB run = none) (w : World) : Calls Tryz.prog 40 #[.string ⟨run.toArray⟩] w fun e w' => NbD run e ∧ Below w.heap.size w w' := by
  have hsz := bs_size run
  have HN : Hid (∀ W, Calls Tryz.prog 57 #[.string ⟨run.toArray⟩] W fun e w' => (∃ x : Int, e = .returned (.tuple #[.int .i64 x, .bool false])) ∧ w' = W) := fun W => by
    refine (number_any run hs hl W).mono ?_
    rintro e w' ⟨⟨x, rfl, h2⟩, rfl⟩
    rw [hu]
    exact ⟨⟨x, rfl⟩, rfl⟩
  have HR : Hid (digTok run = if 46 ∈ run ∨ 47 ∈ run then (pfxL run).map fun p => ⟨5, [], 0, p.1, p.2, 0⟩ else none) := by unfold Hid digTok; rw [hu]
  clear hu
  obtain ⟨W, hW⟩ : ∃ W, W = w.alloc (.cells #[.int .i64 0, .string ⟨#[]⟩, .int .i64 0, .int .i64 0, .int .i64 0, .int .i64 0] 40) := ⟨_, rfl⟩
  have HB := hide (show Below w.heap.size w W by rw [hW]; exact al (Below.refl _ _) _)
  have HK := hide (show W.heap[w.heap.size]? = some (.cells #[.int .i64 0, .string ⟨#[]⟩, .int .i64 0, .int .i64 0, .int .i64 0, .int .i64 0] 40 (0, 0)) by rw [hW]; exact heap_alloc_new w _)
  go_enter Tryz.func40, Tryz.ntmps40
  go_upto_region 1 with fail
  rw [← hW]
  clear hW
  go_wp2_with (go_at_call 57; refine (HN.out _).mono ?_; rintro e w1 ⟨⟨x, rfl⟩, hw1⟩; have hw1 := hw1.symm; subst hw1)
  have HP := hide (fun V => refParsePrefix_any run hl V)
  go_loopg [6] (run.length + 1) (fun g y wr => ∃ i : Nat, y = .int .i64 (i : Nat) ∧ i ≤ run.length ∧ Hid (46 ∉ run.take i ∧ 47 ∉ run.take i) ∧ wr = W ∧ run.length - i < g)
  case atStart => exact ⟨0, rfl, by omega, ⟨by simp, by simp⟩, rfl, by omega⟩
  case round =>
    obtain ⟨i, rfl, hi1, HI, hw, hg⟩ := hrel
    have hw := hw.symm
    subst hw
    have HG := hide hg
    clear hg
    by_cases hi : i < run.length
    · have hi' : (i : Int) < (run.length : Int) := by omega
      obtain ⟨b, hb⟩ : ∃ b : UInt8, run[i] = b := ⟨_, rfl⟩
      have hix : ∀ hk, (⟨run.toArray⟩ : ByteArray)[i]'hk = b := fun hk => (bs_get run i hk).trans hb
      have hmem : b ∈ run := hb ▸ List.getElem_mem hi
      by_cases hc : b = 46 ∨ b = 47
      · have HIN : Hid (46 ∈ run ∨ 47 ∈ run) := by
          rcases hc with rfl | rfl
          · exact .inl hmem
          · exact .inr hmem
        have HR2 := hide (HR.out)
        rw [if_pos HIN.out] at HR2
        have hbb : (b.toNat : Int) = 46 ∨ (¬ (b.toNat : Int) = 46 ∧ (b.toNat : Int) = 47) := by
          rcases hc with rfl | rfl
          · exact .inl rfl
          · exact .inr ⟨by decide, rfl⟩
        clear hc hmem hb
        rcases hbb with hbb | ⟨hnb, hbb⟩
        all_goals
          go_wp2_with (go_at_call 58; refine (HP.out _).mono ?_; rintro e w2 ⟨rfl, x2⟩; have X2 := hide x2; have HK3 := hide (((al x2 (.cells #[.int .i64 (pfxA run), .int .i64 (pfxB run)] 38)).block _ (lt_of_block HK.out)).trans HK.out); have X3 := hide (al (bt HB.out x2 (Nat.le_refl _)) (.cells #[.int .i64 (pfxA run), .int .i64 (pfxB run)] 38)); obtain ⟨c0, c1, c2, c3, c4, c5⟩ := six_get HK3.out; have f0 := frozen_of_row _ _ 0 _ _ HK3.out; have f1 := frozen_of_row _ _ 1 _ _ HK3.out; have f2 := frozen_of_row _ _ 2 _ _ HK3.out; have f3 := frozen_of_row _ _ 3 _ _ HK3.out; have f4 := frozen_of_row _ _ 4 _ _ HK3.out; have f5 := frozen_of_row _ _ 5 _ _ HK3.out; clear x2)
          have K9 := six_set HK3.out (.int .i64 5) (.string ⟨#[]⟩) (.int .i64 0) (.int .i64 (pfxA run)) (.int .i64 (pfxB run)) (.int .i64 0)
          have B9 := (((((X3.out.setCell (p := ⟨w.heap.size, 0, none⟩) (Nat.le_refl _) (.int .i64 5)).setCell (p := ⟨w.heap.size, 1, none⟩) (Nat.le_refl _) (.string ⟨#[]⟩)).setCell (p := ⟨w.heap.size, 2, none⟩) (Nat.le_refl _) (.int .i64 0)).setCell (p := ⟨w.heap.size, 3, none⟩) (Nat.le_refl _) (.int .i64 (pfxA run))).setCell (p := ⟨w.heap.size, 4, none⟩) (Nat.le_refl _) (.int .i64 (pfxB run))).setCell (p := ⟨w.heap.size, 5, none⟩) (Nat.le_refl _) (.int .i64 0)
          clear c0 c1 c2 c3 c4 c5 f0 f1 f2 f3 f4 f5
          generalize (((((((w2.alloc (.cells #[.int .i64 (pfxA run), .int .i64 (pfxB run)] 38)).setCell ⟨w.heap.size, 0, none⟩ (.int .i64 5)).setCell ⟨w.heap.size, 1, none⟩ (.string ⟨#[]⟩)).setCell ⟨w.heap.size, 2, none⟩ (.int .i64 0)).setCell ⟨w.heap.size, 3, none⟩ (.int .i64 (pfxA run))).setCell ⟨w.heap.size, 4, none⟩ (.int .i64 (pfxB run))).setCell ⟨w.heap.size, 5, none⟩ (.int .i64 0)) = W9 at *
          obtain ⟨r0, r1, r2, r3, r4, r5⟩ := six_get K9
          refine bodyPost_ret (by simp [results, Tryz.results40, go_sem, r0, r1, r2, r3, r4, r5]; try rfl) rfl ?_
          refine ⟨⟨⟨5, [], 0, pfxA run, pfxB run, 0⟩, ?_, fun z hz => ?_⟩, B9⟩
          · rw [HR2.out]
            unfold pfxE
            cases pfxL run with
            | none => rfl
            | some p => rfl
          · rw [HR2.out] at hz
            unfold pfxA pfxB
            cases hp : pfxL run with
            | none => rw [hp] at hz; cases hz
            | some p => rw [hp] at hz; exact Option.some.inj hz
      · have hn46 : ¬ (b.toNat : Int) = 46 := fun e => hc (.inl (UInt8.toNat_inj.1 (by show b.toNat = 46; omega)))
        have hn47 : ¬ (b.toNat : Int) = 47 := fun e => hc (.inr (UInt8.toNat_inj.1 (by show b.toNat = 47; omega)))
        have HI2 : Hid (46 ∉ run.take (i + 1) ∧ 47 ∉ run.take (i + 1)) := by
          unfold Hid
          rw [List.take_add_one, List.getElem?_eq_getElem hi, hb]
          have h1 : ¬ (46 = b) := fun e => hc (.inl e.symm)
          have h2 : ¬ (47 = b) := fun e => hc (.inr e.symm)
          simp [HI.out.1, HI.out.2, h1, h2]
        have f3 : IntKind.i64.wrap ((i : Int) + 1) = (i : Int) + 1 := by rw [show (i : Int) + 1 = ((i + 1 : Nat) : Int) by simp]; simp [IntKind.wrap, IntKind.bits, IntKind.signed]; omega
        have b46 : ((b.toNat : Int) == 46) = false := by simpa using hn46
        have b47 : ((b.toNat : Int) == 47) = false := by simpa using hn47
        clear hc hmem hb
        go_wp2
        go_roundg (run.length - (i + 1) + 1)
        case measure => have := HG.out; omega
        case rel => exact ⟨i + 1, by simp, by omega, HI2, rfl, by omega⟩
    · obtain rfl : i = run.length := by omega
      have HN2 : Hid (digTok run = none) := by
        unfold Hid
        have := HI.out
        rw [List.take_length] at this
        rw [HR.out, if_neg (by rintro (h | h); exact this.1 h; exact this.2 h)]
      obtain ⟨c0, c1, c2, c3, c4, c5⟩ := six_get HK.out
      have f0 := frozen_of_row _ _ 0 _ _ HK.out
      have f1 := frozen_of_row _ _ 1 _ _ HK.out
      have f2 := frozen_of_row _ _ 2 _ _ HK.out
      have f3 := frozen_of_row _ _ 3 _ _ HK.out
      have f4 := frozen_of_row _ _ 4 _ _ HK.out
      have f5 := frozen_of_row _ _ 5 _ _ HK.out
      go_wp2
      have K9 := six_set HK.out (.int .i64 0) (.string ⟨#[]⟩) (.int .i64 0) (.int .i64 0) (.int .i64 0) (.int .i64 0)
      have B9 := (((((HB.out.setCell (p := ⟨w.heap.size, 0, none⟩) (Nat.le_refl _) (.int .i64 0)).setCell (p := ⟨w.heap.size, 1, none⟩) (Nat.le_refl _) (.string ⟨#[]⟩)).setCell (p := ⟨w.heap.size, 2, none⟩) (Nat.le_refl _) (.int .i64 0)).setCell (p := ⟨w.heap.size, 3, none⟩) (Nat.le_refl _) (.int .i64 0)).setCell (p := ⟨w.heap.size, 4, none⟩) (Nat.le_refl _) (.int .i64 0)).setCell (p := ⟨w.heap.size, 5, none⟩) (Nat.le_refl _) (.int .i64 0)
      clear c0 c1 c2 c3 c4 c5 f0 f1 f2 f3 f4 f5
      generalize ((((((W.setCell ⟨w.heap.size, 0, none⟩ (.int .i64 0)).setCell ⟨w.heap.size, 1, none⟩ (.string ⟨#[]⟩)).setCell ⟨w.heap.size, 2, none⟩ (.int .i64 0)).setCell ⟨w.heap.size, 3, none⟩ (.int .i64 0)).setCell ⟨w.heap.size, 4, none⟩ (.int .i64 0)).setCell ⟨w.heap.size, 5, none⟩ (.int .i64 0)) = W9 at *
      obtain ⟨r0, r1, r2, r3, r4, r5⟩ := six_get K9
      refine bodyPost_ret (by simp [results, Tryz.results40, go_sem, r0, r1, r2, r3, r4, r5]; try rfl) rfl ?_
      exact ⟨⟨⟨0, [], 0, 0, 0, 0⟩, by rw [HN2.out]; rfl, fun z hz => by rw [HN2.out] at hz; cases hz⟩, B9⟩
end Go.Proofs.YtkpdbbbeagnjpaaGreatDoor
/-
  A run of digits: the scanner's token against the document's. Pure. Condition: a run of one byte at least.
-/
namespace Go.Proofs.YtkpdbbbeagnjpaaGreatDoor
open Go.RowKit Go.Lib

theorem numbered_any (run : By) (hs : run ≠ []) (hl : run.length ≤ 140737488351232) (w : World) : Calls Tryz.prog 40 #[.string ⟨run.toArray⟩] w fun e w' => NbD run e ∧ Below w.heap.size w w' := by
  cases hu : numB run with
  | none => exact numbered_pfx run hs hl hu w
  | some u => exact numbered_num run hs hl u hu w
theorem num_point {run : By} (hs : run ≠ []) (h : 46 ∈ run ∨ 47 ∈ run) : numB run = none := by
  cases hn : numB run with
  | none => rfl
  | some u =>
    have hd := (numB_some hs hn).1
    rcases h with h | h
    · exact absurd ((dig_iff _).1 (hd _ h)).1 (by decide)
    · exact absurd ((dig_iff _).1 (hd _ h)).1 (by decide)
/-- What the scanner adds for a run of digits is the document's token. -/
theorem endDig_tok (x : SS) {run : By} (hs : run ≠ []) : endDigP x run = match digTok run with | some z => (0, { x with tk := x.tk ++ [{ z with p := x.fr }] }) | none => (81, x) := by
  unfold endDigP digTok
  by_cases h : 46 ∈ run ∨ 47 ∈ run
  · rw [if_pos h, num_point hs h]
    simp only [if_pos h]
    unfold endPfxP
    cases pfxL run with
    | none => rfl
    | some p => rfl
  · rw [if_neg h]
    unfold endNumP
    cases numB run with
    | none => simp only [if_neg h]
    | some u => rfl
end Go.Proofs.YtkpdbbbeagnjpaaGreatDoor
