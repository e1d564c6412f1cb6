/-
  begin by its contract, of a rune from 128 on, and so of any. No condition but the scanner's place.
-/
import Derived.Test.YtkpdbbbeagnjpaaDoorSgh
namespace Go.Proofs.YtkpdbbbeagnjpaaDoor
open Go.RowKit Go.Lib

theorem sm_high {r : Int} (h : 128 ≤ r) : smB r = false := by unfold smB; have : decide (r ≤ 122) = false := (by simp; omega); rw [this, Bool.and_false]
theorem gr_high {r : Int} (h : 128 ≤ r) : grB r = false := by unfold grB; have : decide (r ≤ 90) = false := (by simp; omega); rw [this, Bool.and_false]
theorem dg_high {r : Int} (h : 128 ≤ r) : dgB r = false := by unfold dgB; have : decide (r ≤ 57) = false := (by simp; omega); rw [this, Bool.and_false]
theorem bl_high {r : Int} (h : 128 ≤ r) : blB r = false := by
  unfold blB
  have e1 : decide (r = 32) = false := by simp; omega
  have e2 : decide (r = 9) = false := by simp; omega
  have e3 : decide (r = 10) = false := by simp; omega
  have e4 : decide (r = 13) = false := by simp; omega
  rw [e1, e2, e3, e4]
  rfl
theorem sg_high {r : Int} (h : 128 ≤ r) : sgB r = false := by
  rw [← Bool.not_eq_true]
  intro hs
  have hcs : r = 123 ∨ r = 125 ∨ r = 40 ∨ r = 41 ∨ r = 44 ∨ r = 59 ∨ r = 61 ∨ r = 126 ∨ r = 45 := by simpa [sgB, or_assoc] using hs
  omega
theorem tx_high {r : Int} (h : 128 ≤ r) : txB r = false := by unfold txB; have : decide (r ≤ 126) = false := (by simp; omega); rw [this, Bool.and_false]
theorem es_high {r : Int} (h : 128 ≤ r) : esB r = false := by
  unfold esB
  have e1 : decide (r = 34) = false := by simp; omega
  have e2 : decide (r = 92) = false := by simp; omega
  rw [e1, e2]
  rfl
theorem beginP_high (x : SS) (q : Int) {r : Int} (h : 128 ≤ r) : beginP x q r = (80, { x with fr := q, st := 0 }) := by
  unfold beginP
  rw [if_neg (by rw [bl_high h]; decide), if_neg (by omega), if_neg (by rw [sm_high h]; decide), if_neg (by rw [gr_high h]; decide), if_neg (by rw [dg_high h]; decide), if_neg (by omega), if_neg (by rw [sg_high h]; decide)]
section
variable {w : World} {base p : Nat} {s : By} {x : SS}
set_option maxHeartbeats 4000000 in
set_option maxRecDepth 100000 in
theorem begin_high (h : ScA w base p s x) (q r : Int) (h1 : 128 ≤ r) :
    Calls Tryd.prog 22 #[.pointer (some ⟨p, 0, none⟩), .int .i64 q, .int .i32 r] w fun e w' => ScE w base p s (beginP x q r) e w' := by
  obtain ⟨tv, ad, bv, h⟩ := h
  obtain ⟨c0, c2, c3, f2, f3⟩ := h.cells
  obtain ⟨s1, k1⟩ := h.setFr q
  obtain ⟨s2, k2⟩ := s1.setSt 0
  have K2 := hide (k1.trans k2)
  have S2 := hide s2
  have H1 := hide (fun W => isBlank_any r W)
  have H2 := hide (fun W => isSmall_any r W)
  have H3 := hide (fun W => isGreat_any r W)
  have H4 := hide (fun W => isDigit_any r W)
  have H5 := hide (fun W => isSign_high r h1 W)
  have HM := hide (beginP_high x q h1)
  rw [bl_high h1] at H1
  rw [sm_high h1] at H2
  rw [gr_high h1] at H3
  rw [dg_high h1] at H4
  have e35 : (r == 35) = false := by simp; omega
  have e34 : (r == 34) = false := by simp; omega
  have n35 : ¬ r = 35 := by omega
  have n34 : ¬ r = 34 := by omega
  clear h s1 s2 k1 k2 h1
  go_enter Tryd.func22, Tryd.ntmps22
  go_upto_region 4 with fail
  obtain ⟨w2, hw2⟩ : ∃ w2, w2 = (w.setCell ⟨p, 3, none⟩ (.int .i64 q)).setCell ⟨p, 2, none⟩ (.int .i64 0) := ⟨_, rfl⟩
  rw [← hw2] at S2 K2 ⊢
  clear hw2 c0 c2 c3 f2 f3
  have HS := hide K2.out.size
  go_wp2_with (first | (go_at_call 36; refine (H1.out _).mono ?_; rintro e wz ⟨rfl, hwz⟩; have hwz := hwz.symm; subst hwz) | (go_at_call 17; refine (H2.out _).mono ?_; rintro e wz ⟨rfl, hwz⟩; have hwz := hwz.symm; subst hwz) | (go_at_call 27; refine (H3.out _).mono ?_; rintro e wz ⟨rfl, hwz⟩; have hwz := hwz.symm; subst hwz) | (go_at_call 26; refine (H4.out _).mono ?_; rintro e wz ⟨rfl, hwz⟩; have hwz := hwz.symm; subst hwz) | (go_at_call 37; refine (H5.out _).mono ?_; rintro e w3 ⟨rfl, x3⟩; have X3 := hide x3; clear x3))
  go_ret
  rw [HM.out]
  exact ⟨rfl, ⟨_, _, _, S2.out.below X3.out⟩, K2.out.trans (KpT.of_below X3.out), Nat.le_trans HS.out X3.out.size⟩
theorem begin_all (h : ScA w base p s x) (q r : Int) (h0 : 0 ≤ r) (hb : base ≤ w.heap.size) (hl : x.tk.length ≤ 4294967296) :
    Calls Tryd.prog 22 #[.pointer (some ⟨p, 0, none⟩), .int .i64 q, .int .i32 r] w fun e w' => ScE w base p s (beginP x q r) e w' := by
  by_cases h1 : r < 128
  · exact begin_any h q r h0 h1 hb hl
  · exact begin_high h q r (by omega)
end
end Go.Proofs.YtkpdbbbeagnjpaaDoor
