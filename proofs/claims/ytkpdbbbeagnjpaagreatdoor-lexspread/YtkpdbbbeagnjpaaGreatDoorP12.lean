/-
  strings.Clone, endRun of a run of letters by their contracts. Conditions: the run lies within the source, which has at most 2^32 bytes.
-/
import Derived.Test.YtkpdbbbeagnjpaaGreatDoorP11
import Derived.Deep.RegionWith
namespace Go.Proofs.YtkpdbbbeagnjpaaGreatDoor
open Go.RowKit Go.Lib

theorem clone_any (s : By) (w : World) (hl : s.length ≤ 4294967296) : Calls Tryz.prog 49 #[.string ⟨s.toArray⟩] w fun e w' => e = .returned (.string ⟨s.toArray⟩) ∧ Below w.heap.size w w' := by
  have HC := hide (Tryz.stringslite_Clone ⟨s.toArray⟩ w (by rw [bs_size]; omega))
  go_enter Tryz.func49, Tryz.ntmps49
  go_wp2_with (go_at_call 62; refine HC.out.mono ?_; rintro e w1 ⟨rfl, x1⟩; have X1 := hide x1; clear x1)
  go_ret
  exact ⟨rfl, X1.out⟩
/-- A piece of a source. -/
def cutB (s : By) (i j : Nat) : By := (s.take j).drop i
theorem ext_cut (s : By) (i j : Nat) : (⟨s.toArray⟩ : ByteArray).extract i j = ⟨(cutB s i j).toArray⟩ := by
  unfold cutB
  apply ByteArray.ext
  apply Array.toList_inj.1
  simp [List.drop_take]
/-- The run that ends at a place, as a token. -/
def endRunP (s : By) (x : SS) (q : Int) : Int × SS := if x.st = 2 then endLettersP x (cutB s x.fr.toNat q.toNat) (if wdB (cutB s x.fr.toNat q.toNat) = true then 1 else 2) 32 else endLettersP x (cutB s x.fr.toNat q.toNat) 3 16
section
variable {w : World} {base p : Nat} {s : By} {x : SS}
set_option maxHeartbeats 4000000 in
set_option maxRecDepth 100000 in
theorem endRun_any (h : ScA w base p s x) (q : Int) (h2 : x.st = 2 ∨ x.st = 3) (h0 : 0 ≤ x.fr) (h1 : x.fr ≤ q) (hq : q ≤ s.length) (hs : s.length ≤ 4294967296) (hb : base ≤ w.heap.size) (hl : x.tk.length ≤ 4294967296) :
    Calls Tryz.prog 35 #[.pointer (some ⟨p, 0, none⟩), .int .i64 q] w fun e w' => ScE w base p s (endRunP s x q) e w' := by
  obtain ⟨tv, ad, bv, h⟩ := h
  have hsz := bs_size s
  have HE := hide (ext_cut s x.fr.toNat q.toNat)
  obtain ⟨run, hrun⟩ : ∃ run, Hid (run = cutB s x.fr.toNat q.toNat) := ⟨_, rfl⟩
  rw [← hrun.out] at HE
  have hrl : run.length ≤ 4294967296 := by rw [hrun.out]; unfold cutB; simp; omega
  have HCL := hide (fun W => clone_any run W hrl)
  have HC : Hid (∀ V, Below w.heap.size w V → ScA V base p s x ∧ V.cell? ⟨p, 0, none⟩ = some (.string ⟨s.toArray⟩) ∧ V.cell? ⟨p, 2, none⟩ = some (.int .i64 x.st) ∧ V.cell? ⟨p, 3, none⟩ = some (.int .i64 x.fr)) := fun V y => by
    have := h.below y
    obtain ⟨c0, c2, c3, _⟩ := this.cells
    exact ⟨⟨_, _, _, this⟩, c0, c2, c3⟩
  obtain ⟨-, c0, c2, c3⟩ := HC.out w (Below.refl _ _)
  have HH := hide h
  clear h
  go_enter Tryz.func35, Tryz.ntmps35
  go_upto_region 1 with fail
  have HM : Hid (endRunP s x q = if x.st = 2 then endLettersP x run (if wdB run = true then 1 else 2) 32 else endLettersP x run 3 16) := by unfold Hid endRunP; rw [hrun.out]
  go_region_with (go_at_call 49; rw [HE.out]; refine (HCL.out _).mono ?_; rintro e w1 ⟨rfl, x1⟩; have X1 := hide (bt (Below.drew (Below.refl w.heap.size w)) x1 (Nat.le_refl _)); clear x1)
  all_goals
    obtain ⟨hA, d0, d2, d3⟩ := HC.out w1 X1.out
    have hz := X1.out.size
    rcases h2 with h2 | h2
    · rw [h2] at d2
      rw [if_pos h2] at HM
      have HK := hide (fun W => smallKind_any run W)
      generalize (if wdB run = true then (1 : Int) else 2) = kd at *
      have HX := hide (endLetters_any hA run kd 32 (by omega) hl)
      clear hA c0 c2 c3 HC
      go_wp2_with (first | (go_at_call 51; refine (HK.out _).mono ?_; rintro e wz ⟨rfl, hwz⟩; have hwz := hwz.symm; subst hwz) | (go_at_call 50; refine HX.out.mono ?_; rintro e w2 ⟨rfl, hA, hK, hS⟩; have HA2 := hide hA; have HK2 := hide hK; have HS2 := hide hS; clear hA hK hS))
      go_ret
      rw [HM.out]
      exact ⟨rfl, HA2.out, (KpT.of_below X1.out).trans HK2.out, Nat.le_trans X1.out.size HS2.out⟩
    · rw [h2] at d2
      rw [if_neg (by rw [h2]; decide)] at HM
      have HX := hide (endLetters_any hA run 3 16 (by omega) hl)
      clear hA c0 c2 c3 HC
      go_wp2_with (go_at_call 50; refine HX.out.mono ?_; rintro e w2 ⟨rfl, hA, hK, hS⟩; have HA2 := hide hA; have HK2 := hide hK; have HS2 := hide hS; clear hA hK hS)
      go_ret
      rw [HM.out]
      exact ⟨rfl, HA2.out, (KpT.of_below X1.out).trans HK2.out, Nat.le_trans X1.out.size HS2.out⟩
end
end Go.Proofs.YtkpdbbbeagnjpaaGreatDoor
