/-
  stepText, stepEscape, smallKind, endLetters by their contracts. Conditions: at most 2^32 tokens and bytes.
-/
import Derived.Test.YtkpdbbbeagnjpaaDoorSc
namespace Go.Proofs.YtkpdbbbeagnjpaaDoor
open Go.RowKit Go.Lib

def stepTextP (x : SS) (r : Int) : Int × SS := if r = 34 then (0, { x with tk := x.tk ++ [⟨6, x.mn, 0, 0, 0, x.fr⟩], mn := [], st := 0 }) else if r = 92 then (0, { x with st := 6 }) else meanP x r
def stepEscP (x : SS) (r : Int) : Int × SS := if esB r = true then meanP { x with st := 5 } r else (83, x)
def endLettersP (x : SS) (run : By) (kind most : Int) : Int × SS := if most < run.length then (82, x) else (0, { x with tk := x.tk ++ [⟨kind, run, 0, 0, 0, x.fr⟩] })
/-- What follows upon what came. -/
theorem ScE.after {w w1 w' : World} {base p : Nat} {s : By} {y : Int × SS} {e : Ending} (k : KpT base p w w1) (hs : w.heap.size ≤ w1.heap.size) (h : ScE w1 base p s y e w') : ScE w base p s y e w' := ⟨h.1, h.2.1, k.trans h.2.2.1, Nat.le_trans hs h.2.2.2⟩
section
variable {w : World} {base p : Nat} {s : By} {x : SS}
set_option maxHeartbeats 2000000 in
set_option maxRecDepth 100000 in
theorem stepText_any (h : ScA w base p s x) (r : Int) (hb : base ≤ w.heap.size) (hm : x.mn.length ≤ 4294967296) (hl : x.tk.length ≤ 4294967296) :
    Calls Tryd.prog 19 #[.pointer (some ⟨p, 0, none⟩), .int .i32 r] w fun e w' => ScE w base p s (stepTextP x r) e w' := by
  by_cases h1 : r = 34
  · subst h1
    have HM : Hid (stepTextP x 34 = (0, { x with tk := x.tk ++ [⟨6, x.mn, 0, 0, 0, x.fr⟩], mn := [], st := 0 })) := by unfold Hid stepTextP; rw [if_pos rfl]
    obtain ⟨tv, ad, bv, h⟩ := h
    have HH := hide h
    have HS := hide (h.bu.string (fun e => by rw [h.nil e]; rfl))
    clear h
    go_enter Tryd.func19, Tryd.ntmps19
    go_wp2_with (go_at_call 16; refine HS.out.mono ?_; rintro e w1 ⟨rfl, hC, hK, hz⟩; have HC := hide hC; have HK := hide hK; have HZ := hide hz; clear hC hK hz)
    have HT := hide (HK.out.own HH.out.tok (by decide) (HH.out.row_ne HH.out.tok (.inr rfl)))
    have HA := hide (add_any p base _ tv _ ad bv x.fr x.tk ⟨6, x.mn, 0, 0, 0, 0⟩ w1 HC.out.blk HT.out hl (by have := HZ.out; omega))
    unfold tkV at HA
    refine HA.out.mono ?_
    rintro e w2 ⟨rfl, ⟨tv', hB2, hT2⟩, hK2⟩
    have HB2 := hide hB2
    have HT2 := hide hT2
    have HK2 := hide hK2
    clear HA HS hB2 hT2 hK2
    have HC2 : Hid (BuC w2 base p 4 42 #[.string ⟨s.toArray⟩, tv', .int .i64 x.st, .int .i64 x.fr, ad, bv]) := ⟨HB2.out, HC.out.ge, HC.out.ho, HC.out.lies, HC.out.ne⟩
    have HR := hide HC2.out.reset
    go_wp2_with (go_at_call 28; refine HR.out.mono ?_; rintro e w3 ⟨rfl, hB3, hK3⟩; have f2 := frozen_of_row _ _ 2 _ _ hB3.blk; have c2 := cell_of_row _ _ 2 _ _ _ hB3.blk; have HB3 := hide hB3; have HK3 := hide hK3; clear hB3 hK3)
    go_ret
    rw [HM.out]
    have k3 := KpT.of5 HK3.out
    have s3 : Sc w3 base p s { tk := x.tk ++ [⟨6, x.mn, 0, 0, 0, x.fr⟩], st := x.st, fr := x.fr, mn := [] } tv' (.pointer none) (.slice none 0 0) := by
      obtain ⟨v, hv, hr⟩ := HB3.out.row
      simp at hv
      subst hv
      exact ⟨HB3.out.blk, HH.out.ge, .inl rfl, HK3.out.own (by simpa using HT2.out) (by decide) (fun k hk e' => by
        obtain ⟨c, hc⟩ := own_ty HT2.out k hk
        rw [e', HB2.out] at hc
        injection hc with hc
        injection hc with _ hc _
        cases hc), hr, fun _ => rfl⟩
    obtain ⟨s4, k4⟩ := s3.setSt 0
    exact ⟨rfl, ⟨_, _, _, s4⟩, (KpT.of5 HK.out).trans ((KpT.of40 HK2.out).trans (k3.trans k4)), by
      have h1 := HZ.out
      have h2 := HK2.out.size
      have h3 := HK3.out.size
      have h4 := k4.size
      omega⟩
  · have e1 : (r == 34) = false := by simp [h1]
    by_cases h2 : r = 92
    · subst h2
      have HM : Hid (stepTextP x 92 = (0, { x with st := 6 })) := by unfold Hid stepTextP; rw [if_neg (by decide), if_pos rfl]
      obtain ⟨tv, ad, bv, h⟩ := h
      have HH := hide h
      obtain ⟨c0, c2, c3, f2, f3⟩ := h.cells
      clear h
      go_enter Tryd.func19, Tryd.ntmps19
      go_wp2
      go_ret
      rw [HM.out]
      obtain ⟨s4, k4⟩ := HH.out.setSt 6
      exact ⟨rfl, ⟨_, _, _, s4⟩, k4, k4.size⟩
    · have e2 : (r == 92) = false := by simp [h2]
      have HM : Hid (stepTextP x r = meanP x r) := by unfold Hid stepTextP; rw [if_neg h1, if_neg h2]
      have HX := hide (mean_any h r hb hm)
      clear h
      go_enter Tryd.func19, Tryd.ntmps19
      go_wp2_with (go_at_call 29; refine HX.out.mono ?_; rintro e w1 ⟨rfl, hA, hK, hS⟩; have HA := hide hA; have HK := hide hK; have HS := hide hS; clear hA hK hS)
      go_ret
      rw [HM.out]
      exact ⟨rfl, HA.out, HK.out, HS.out⟩
set_option maxHeartbeats 2000000 in
set_option maxRecDepth 100000 in
theorem stepEsc_any (h : ScA w base p s x) (r : Int) (hb : base ≤ w.heap.size) (hm : x.mn.length ≤ 4294967296) :
    Calls Tryd.prog 20 #[.pointer (some ⟨p, 0, none⟩), .int .i32 r] w fun e w' => ScE w base p s (stepEscP x r) e w' := by
  have HE := hide (fun W => isEsc_any r W)
  cases he : esB r with
  | false =>
    have HM : Hid (stepEscP x r = (83, x)) := by unfold Hid stepEscP; rw [if_neg (by simp [he])]
    rw [he] at HE
    have HH := hide h
    clear h he
    go_enter Tryd.func20, Tryd.ntmps20
    go_wp2_with (go_at_call 14; refine (HE.out _).mono ?_; rintro e wz ⟨rfl, hwz⟩; have hwz := hwz.symm; subst hwz)
    go_ret
    rw [HM.out]
    exact ⟨rfl, HH.out, KpT.refl _ _ _, Nat.le_refl _⟩
  | true =>
    have HM : Hid (stepEscP x r = meanP { x with st := 5 } r) := by unfold Hid stepEscP; rw [if_pos he]
    rw [he] at HE
    obtain ⟨tv, ad, bv, h⟩ := h
    obtain ⟨c0, c2, c3, f2, f3⟩ := h.cells
    obtain ⟨s4, k4⟩ := h.setSt 5
    have K4 := hide k4
    have HX := hide (mean_any ⟨_, _, _, s4⟩ r (by have := k4.size; omega) hm)
    clear h he s4 k4
    go_enter Tryd.func20, Tryd.ntmps20
    go_wp2_with (first | (go_at_call 14; refine (HE.out _).mono ?_; rintro e wz ⟨rfl, hwz⟩; have hwz := hwz.symm; subst hwz) | (go_at_call 29; refine HX.out.mono ?_; rintro e w1 ⟨rfl, hA, hK, hS⟩; have HA := hide hA; have HK := hide hK; have HS := hide hS; clear hA hK hS))
    go_ret
    rw [HM.out]
    exact ⟨rfl, HA.out, K4.out.trans HK.out, Nat.le_trans K4.out.size HS.out⟩
theorem smallKind_any (r : By) (w : World) : Calls Tryd.prog 32 #[.string ⟨r.toArray⟩] w fun e w' => e = .returned (.int .i64 (if wdB r = true then 1 else 2)) ∧ w' = w := by
  have HW := hide (fun W => isWord_any r W)
  cases hb : wdB r
  all_goals
    rw [hb] at HW
    clear hb
    go_enter Tryd.func32, Tryd.ntmps32
    go_wp2_with (go_at_call 9; refine (HW.out _).mono ?_; rintro e wz ⟨rfl, hwz⟩; have hwz := hwz.symm; subst hwz)
    go_ret
    exact ⟨rfl, rfl⟩
set_option maxHeartbeats 2000000 in
set_option maxRecDepth 100000 in
theorem endLetters_any (h : ScA w base p s x) (run : By) (kind most : Int) (hb : base ≤ w.heap.size) (hl : x.tk.length ≤ 4294967296) :
    Calls Tryd.prog 31 #[.pointer (some ⟨p, 0, none⟩), .string ⟨run.toArray⟩, .int .i64 kind, .int .i64 most] w fun e w' => ScE w base p s (endLettersP x run kind most) e w' := by
  have hsz := bs_size run
  by_cases h1 : most < run.length
  · have HM : Hid (endLettersP x run kind most = (82, x)) := by unfold Hid endLettersP; rw [if_pos h1]
    have HH := hide h
    clear h
    go_enter Tryd.func31, Tryd.ntmps31
    go_wp2
    go_ret
    rw [HM.out]
    exact ⟨rfl, HH.out, KpT.refl _ _ _, Nat.le_refl _⟩
  · have HM : Hid (endLettersP x run kind most = (0, { x with tk := x.tk ++ [⟨kind, run, 0, 0, 0, x.fr⟩] })) := by unfold Hid endLettersP; rw [if_neg h1]
    obtain ⟨tv, ad, bv, h⟩ := h
    have HA := hide (h.add ⟨kind, run, 0, 0, 0, 0⟩ hl hb)
    unfold tkV at HA
    clear h
    go_enter Tryd.func31, Tryd.ntmps31
    go_wp2_with (go_at_call 23; refine HA.out.mono ?_; rintro e w1 ⟨rfl, hA, hK, hS⟩; have HA2 := hide hA; have HK := hide hK; have HS := hide hS; clear hA hK hS)
    go_ret
    rw [HM.out]
    exact ⟨rfl, HA2.out, HK.out, HS.out⟩
end
end Go.Proofs.YtkpdbbbeagnjpaaDoor
