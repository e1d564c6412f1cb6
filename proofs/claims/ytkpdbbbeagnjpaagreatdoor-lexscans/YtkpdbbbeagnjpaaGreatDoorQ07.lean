/-
  The scanner as it lies in memory; mean, stepText, stepEscape, endLetters by their contracts. Conditions: at most 2^32 tokens; runes below 128 where they are written.
-/
import Derived.Test.YtkpdbbbeagnjpaaGreatDoorQ06
namespace Go.Proofs.YtkpdbbbeagnjpaaGreatDoor
open Go.RowKit Go.Lib

/-- What a call may have turned that has a block p, rows of bytes (5) and of tokens (40) from base on. -/
def KpT (base b : Nat) (w w' : World) : Prop := Kept (fun k => k = b ∨ base ≤ k ∧ ∃ c f, w.heap[k]? = some (.cells c 5 f) ∨ w.heap[k]? = some (.cells c 40 f)) w w'
theorem KpT.refl (base b : Nat) (w : World) : KpT base b w w := Kept.refl _ _
theorem KpT.trans {base b : Nat} {u v w : World} (h : KpT base b u v) (k : KpT base b v w) : KpT base b u w := by
  refine Kept.trans_new h k (fun i hi hG => ?_)
  rcases hG with rfl | ⟨hb, c, f, hc⟩
  · exact .inl rfl
  · by_cases hF : i = b ∨ base ≤ i ∧ ∃ c f, u.heap[i]? = some (.cells c 5 f) ∨ u.heap[i]? = some (.cells c 40 f)
    · exact hF
    · rw [h.block i hi hF] at hc
      exact .inr ⟨hb, c, f, hc⟩
theorem KpT.of_below {base b : Nat} {w w' : World} (h : Below w.heap.size w w') : KpT base b w w' := Kept.of_below h
theorem KpT.to_below {base b : Nat} {w w' : World} (h : KpT base b w w') (hb : base ≤ b) (hs : base ≤ w.heap.size) : Below base w w' := Kept.below h hs (fun i hi => by
  rcases hi with h1 | ⟨h1, _⟩
  · omega
  · exact h1)
theorem KpT.set {base b o : Nat} {w : World} (v : Value) : KpT base b w (w.setCell ⟨b, o, none⟩ v) := (Kept.refl _ w).setCell (p := ⟨b, o, none⟩) (.inl rfl) v
theorem KpT.of5 {base b : Nat} {w w' : World} (h : KpO 5 base b w w') : KpT base b w w' := Kept.mono h (fun i hi => by
  rcases hi with h1 | ⟨hb, c, f, h1⟩
  · exact .inl h1
  · exact .inr ⟨hb, c, f, .inl h1⟩)
theorem KpT.of40 {base b : Nat} {w w' : World} (h : KpO 40 base b w w') : KpT base b w w' := Kept.mono h (fun i hi => by
  rcases hi with h1 | ⟨hb, c, f, h1⟩
  · exact .inl h1
  · exact .inr ⟨hb, c, f, .inr h1⟩)
/-- Whatever is neither stays: an iterator among them. -/
theorem KpT.block' {base b k : Nat} {w w' : World} {o : Obj} (h : KpT base b w w') (ho : w.heap[k]? = some o) (hk : k ≠ b) (h5 : ∀ c f, o ≠ .cells c 5 f) (h40 : ∀ c f, o ≠ .cells c 40 f) : w'.heap[k]? = some o := by
  rw [Kept.block h k (lt_of_block ho) ?_, ho]
  rintro (h1 | ⟨_, c, f, h1 | h1⟩)
  · exact hk h1
  · rw [ho] at h1
    injection h1 with h1
    exact h5 c f h1
  · rw [ho] at h1
    injection h1 with h1
    exact h40 c f h1
/-- What a scanner has: tokens, what it is in, from where, what a text means. -/
structure SS where
  tk : List Tk
  st : Int
  fr : Int
  mn : By
/-- The scanner of a source, at block p. -/
structure Sc (w : World) (base p : Nat) (s : By) (x : SS) (tv ad bv : Value) : Prop where
  blk : w.heap[p]? = some (.cells #[.string ⟨s.toArray⟩, tv, .int .i64 x.st, .int .i64 x.fr, ad, bv] 47 (0, 0))
  ge : base ≤ p
  ad' : ad = .pointer none ∨ ad = .pointer (some ⟨p, 4, none⟩)
  tok : w.ownsRow base 40 6 tv x.tk.length (tkC x.tk)
  row : w.ownsRow base 5 1 bv x.mn.length (Lib.byteCells x.mn)
  nil : x.mn = [] → bv = .slice none 0 0
def ScA (w : World) (base p : Nat) (s : By) (x : SS) : Prop := ∃ tv ad bv, Sc w base p s x tv ad bv
theorem lies47 : liesAt Tryz.prog Tryz.prog.depth 47 (6 / Tryz.prog.cellsOf 47) 4 45 1 = true := by kernel_rfl
section
variable {w w' : World} {base p : Nat} {s : By} {x : SS} {tv ad bv : Value}
theorem Sc.bu (h : Sc w base p s x tv ad bv) : BuB w base p 4 47 #[.string ⟨s.toArray⟩, tv, .int .i64 x.st, .int .i64 x.fr, ad, bv] x.mn := by
  refine ⟨h.blk, h.ge, by simp, lies47, ⟨by decide, by decide⟩, ?_, bv, rfl, h.row⟩
  rcases h.ad' with e | e
  · left; rw [e]; rfl
  · right; rw [e]; rfl
theorem Sc.cells (h : Sc w base p s x tv ad bv) : w.cell? ⟨p, 0, none⟩ = some (.string ⟨s.toArray⟩) ∧ w.cell? ⟨p, 2, none⟩ = some (.int .i64 x.st) ∧ w.cell? ⟨p, 3, none⟩ = some (.int .i64 x.fr) ∧ w.frozen? ⟨p, 2, none⟩ = false ∧ w.frozen? ⟨p, 3, none⟩ = false :=
  ⟨by rw [cell_of_row _ _ _ _ _ _ h.blk]; rfl, by rw [cell_of_row _ _ _ _ _ _ h.blk]; rfl, by rw [cell_of_row _ _ _ _ _ _ h.blk]; rfl, frozen_of_row _ _ _ _ _ h.blk, frozen_of_row _ _ _ _ _ h.blk⟩
theorem Sc.row_ne (h : Sc w base p s x tv ad bv) {size n : Nat} {t : TypeId} {v : Value} {xs : List Value} (hv : w.ownsRow base t size v n xs) (ht : t = 5 ∨ t = 40) (k : Nat) (hk : v.ownBlock = some k) : ¬ k = p := h.bu.apart hv ht k hk
/-- A field of the scanner is stored. -/
theorem Sc.setSt (h : Sc w base p s x tv ad bv) (z : Int) : Sc (w.setCell ⟨p, 2, none⟩ (.int .i64 z)) base p s { x with st := z } tv ad bv ∧ KpT base p w (w.setCell ⟨p, 2, none⟩ (.int .i64 z)) := by
  have k : Kept (fun k => k = p) w (w.setCell ⟨p, 2, none⟩ (.int .i64 z)) := (Kept.refl (fun k => k = p) w).setCell (p := ⟨p, 2, none⟩) rfl _
  exact ⟨⟨by have := block_setCell' h.blk 2 (.int .i64 z); exact this, h.ge, h.ad', own_kept h.tok k (h.row_ne h.tok (.inr rfl)), own_kept h.row k (h.row_ne h.row (.inl rfl)), h.nil⟩, KpT.set _⟩
theorem Sc.setFr (h : Sc w base p s x tv ad bv) (z : Int) : Sc (w.setCell ⟨p, 3, none⟩ (.int .i64 z)) base p s { x with fr := z } tv ad bv ∧ KpT base p w (w.setCell ⟨p, 3, none⟩ (.int .i64 z)) := by
  have k : Kept (fun k => k = p) w (w.setCell ⟨p, 3, none⟩ (.int .i64 z)) := (Kept.refl (fun k => k = p) w).setCell (p := ⟨p, 3, none⟩) rfl _
  exact ⟨⟨by have := block_setCell' h.blk 3 (.int .i64 z); exact this, h.ge, h.ad', own_kept h.tok k (h.row_ne h.tok (.inr rfl)), own_kept h.row k (h.row_ne h.row (.inl rfl)), h.nil⟩, KpT.set _⟩
theorem Sc.below (h : Sc w base p s x tv ad bv) (y : Below w.heap.size w w') : Sc w' base p s x tv ad bv :=
  ⟨(y.block p (lt_of_block h.blk)).trans h.blk, h.ge, h.ad', own_below h.tok y, own_below h.row y, h.nil⟩
/-- A token comes. -/
theorem Sc.add (h : Sc w base p s x tv ad bv) (y : Tk) (hl : x.tk.length ≤ 4294967296) (hb : base ≤ w.heap.size) :
    Calls Tryz.prog 37 #[.pointer (some ⟨p, 0, none⟩), .agg (tkV y)] w fun e w' => e = .returned (.tuple #[]) ∧ ScA w' base p s { x with tk := x.tk ++ [{ y with p := x.fr }] } ∧ KpT base p w w' ∧ w.heap.size ≤ w'.heap.size := by
  refine (add_any p base _ tv _ ad bv x.fr x.tk y w h.blk h.tok hl hb).mono ?_
  rintro e w' ⟨rfl, ⟨tv', h1, h2⟩, k⟩
  exact ⟨rfl, ⟨tv', ad, bv, h1, h.ge, h.ad', by simpa using h2, k.own h.row (by decide) (h.row_ne h.row (.inl rfl)), h.nil⟩, KpT.of40 k, k.size⟩
end
/-- The byte of a rune. -/
def rB (r : Int) : UInt8 := UInt8.ofNat r.toNat
theorem rB_nat {r : Int} (h0 : 0 ≤ r) (h1 : r < 128) : ((rB r).toNat : Int) = r := by
  unfold rB
  rw [UInt8.toNat_ofNat']
  omega
/-- What becomes of a rune that a text means. -/
def meanP (x : SS) (r : Int) : Int × SS := if txB r = true ∧ x.mn.length ≠ 200 then (0, { x with mn := x.mn ++ [rB r] }) else (83, x)
/-- What is told, and how the scanner lies behind it. -/
def ScE (w : World) (base p : Nat) (s : By) (y : Int × SS) (e : Ending) (w' : World) : Prop := e = .returned (.int .i64 y.1) ∧ ScA w' base p s y.2 ∧ KpT base p w w' ∧ w.heap.size ≤ w'.heap.size
section
variable {w : World} {base p : Nat} {s : By} {x : SS}
set_option maxHeartbeats 2000000 in
set_option maxRecDepth 100000 in
theorem mean_any (h : ScA w base p s x) (r : Int) (hb : base ≤ w.heap.size) (hm : x.mn.length ≤ 4294967296) :
    Calls Tryz.prog 48 #[.pointer (some ⟨p, 0, none⟩), .int .i32 r] w fun e w' => ScE w base p s (meanP x r) e w' := by
  obtain ⟨tv, ad, bv, h⟩ := h
  have HT := hide (fun W => isText_any r W)
  have HH := hide h
  by_cases ht : txB r = true
  · rw [ht] at HT
    have hr : 0 ≤ r ∧ r < 128 := by unfold txB at ht; simp at ht; omega
    have HL := hide h.bu.len
    by_cases h2 : x.mn.length = 200
    · have HM : Hid (meanP x r = (83, x)) := by unfold Hid meanP; rw [if_neg (by simp [h2])]
      rw [h2] at HL
      clear h ht
      go_enter Tryz.func48, Tryz.ntmps48
      go_wp2_with (first | (go_at_call 23; refine (HT.out _).mono ?_; rintro e wz ⟨rfl, hwz⟩; have hwz := hwz.symm; subst hwz) | (go_at_call 61; refine HL.out.mono ?_; rintro e wz ⟨rfl, hwz⟩; have hwz := hwz.symm; subst hwz))
      go_ret
      rw [HM.out]
      exact ⟨rfl, ⟨_, _, _, HH.out⟩, KpT.refl _ _ _, Nat.le_refl _⟩
    · have HM : Hid (meanP x r = (0, { x with mn := x.mn ++ [rB r] })) := by unfold Hid meanP; rw [if_pos ⟨ht, h2⟩]
      have h3 : ¬ (x.mn.length : Int) = 200 := by omega
      have HW := hide (h.bu.rune (rB r) (by have := rB_nat hr.1 hr.2; omega) hb (by omega))
      rw [rB_nat hr.1 hr.2] at HW
      clear h ht
      go_enter Tryz.func48, Tryz.ntmps48
      go_wp2_with (first | (go_at_call 23; refine (HT.out _).mono ?_; rintro e wz ⟨rfl, hwz⟩; have hwz := hwz.symm; subst hwz) | (go_at_call 61; refine HL.out.mono ?_; rintro e wz ⟨rfl, hwz⟩; have hwz := hwz.symm; subst hwz) | (go_at_call 25; refine HW.out.mono ?_; rintro e w1 ⟨rfl, ⟨v', hB⟩, hK⟩; have HB := hide hB; have HK := hide hK; clear hB hK))
      go_ret
      rw [HM.out]
      refine ⟨rfl, ⟨tv, .pointer (some ⟨p, 4, none⟩), v', HB.out.blk, HH.out.ge, .inr rfl, ?_, ?_, fun e => by simp at e⟩, KpT.of5 HK.out, HK.out.size⟩
      · exact HK.out.own HH.out.tok (by decide) (HH.out.row_ne HH.out.tok (.inr rfl))
      · obtain ⟨v, hv, hr⟩ := HB.out.row
        simp at hv
        subst hv
        exact hr
  · have ht' : txB r = false := by simpa using ht
    have HM : Hid (meanP x r = (83, x)) := by unfold Hid meanP; rw [if_neg (by simp [ht'])]
    rw [ht'] at HT
    clear h ht ht'
    go_enter Tryz.func48, Tryz.ntmps48
    go_wp2_with (go_at_call 23; refine (HT.out _).mono ?_; rintro e wz ⟨rfl, hwz⟩; have hwz := hwz.symm; subst hwz)
    go_ret
    rw [HM.out]
    exact ⟨rfl, ⟨_, _, _, HH.out⟩, KpT.refl _ _ _, Nat.le_refl _⟩
end
end Go.Proofs.YtkpdbbbeagnjpaaGreatDoor
/-
  stepText, stepEscape, smallKind, endLetters by their contracts. Conditions: at most 2^32 tokens and bytes.
-/
namespace Go.Proofs.YtkpdbbbeagnjpaaGreatDoor
open Go.RowKit Go.Lib

def stepTextP (x : SS) (r : Int) : Int × SS := if r = 34 then (0, { x with tk := x.tk ++ [⟨6, x.mn, 0, 0, 0, x.fr⟩], mn := [], st := 0 }) else if r = 92 then (0, { x with st := 6 }) else meanP x r
def stepEscP (x : SS) (r : Int) : Int × SS := if esB r = true then meanP { x with st := 5 } r else (83, x)
def endLettersP (x : SS) (run : By) (kind most : Int) : Int × SS := if most < run.length then (82, x) else (0, { x with tk := x.tk ++ [⟨kind, run, 0, 0, 0, x.fr⟩] })
/-- What follows upon what came. -/
theorem ScE.after {w w1 w' : World} {base p : Nat} {s : By} {y : Int × SS} {e : Ending} (k : KpT base p w w1) (hs : w.heap.size ≤ w1.heap.size) (h : ScE w1 base p s y e w') : ScE w base p s y e w' := ⟨h.1, h.2.1, k.trans h.2.2.1, Nat.le_trans hs h.2.2.2⟩
section
variable {w : World} {base p : Nat} {s : By} {x : SS}
set_option maxHeartbeats 2000000 in
set_option maxRecDepth 100000 in
theorem stepText_any (h : ScA w base p s x) (r : Int) (hb : base ≤ w.heap.size) (hm : x.mn.length ≤ 4294967296) (hl : x.tk.length ≤ 4294967296) :
    Calls Tryz.prog 33 #[.pointer (some ⟨p, 0, none⟩), .int .i32 r] w fun e w' => ScE w base p s (stepTextP x r) e w' := by
  by_cases h1 : r = 34
  · subst h1
    have HM : Hid (stepTextP x 34 = (0, { x with tk := x.tk ++ [⟨6, x.mn, 0, 0, 0, x.fr⟩], mn := [], st := 0 })) := by unfold Hid stepTextP; rw [if_pos rfl]
    obtain ⟨tv, ad, bv, h⟩ := h
    have HH := hide h
    have HS := hide (h.bu.string (fun e => by rw [h.nil e]; rfl))
    clear h
    go_enter Tryz.func33, Tryz.ntmps33
    go_wp2_with (go_at_call 26; refine HS.out.mono ?_; rintro e w1 ⟨rfl, hC, hK, hz⟩; have HC := hide hC; have HK := hide hK; have HZ := hide hz; clear hC hK hz)
    have HT := hide (HK.out.own HH.out.tok (by decide) (HH.out.row_ne HH.out.tok (.inr rfl)))
    have HA := hide (add_any p base _ tv _ ad bv x.fr x.tk ⟨6, x.mn, 0, 0, 0, 0⟩ w1 HC.out.blk HT.out hl (by have := HZ.out; omega))
    unfold tkV at HA
    refine HA.out.mono ?_
    rintro e w2 ⟨rfl, ⟨tv', hB2, hT2⟩, hK2⟩
    have HB2 := hide hB2
    have HT2 := hide hT2
    have HK2 := hide hK2
    clear HA HS hB2 hT2 hK2
    have HC2 : Hid (BuC w2 base p 4 47 #[.string ⟨s.toArray⟩, tv', .int .i64 x.st, .int .i64 x.fr, ad, bv]) := ⟨HB2.out, HC.out.ge, HC.out.ho, HC.out.lies, HC.out.ne⟩
    have HR := hide HC2.out.reset
    go_wp2_with (go_at_call 47; refine HR.out.mono ?_; rintro e w3 ⟨rfl, hB3, hK3⟩; have f2 := frozen_of_row _ _ 2 _ _ hB3.blk; have c2 := cell_of_row _ _ 2 _ _ _ hB3.blk; have HB3 := hide hB3; have HK3 := hide hK3; clear hB3 hK3)
    go_ret
    rw [HM.out]
    have k3 := KpT.of5 HK3.out
    have s3 : Sc w3 base p s { tk := x.tk ++ [⟨6, x.mn, 0, 0, 0, x.fr⟩], st := x.st, fr := x.fr, mn := [] } tv' (.pointer none) (.slice none 0 0) := by
      obtain ⟨v, hv, hr⟩ := HB3.out.row
      simp at hv
      subst hv
      exact ⟨HB3.out.blk, HH.out.ge, .inl rfl, HK3.out.own (by simpa using HT2.out) (by decide) (fun k hk e' => by
        obtain ⟨c, hc⟩ := own_ty HT2.out k hk
        rw [e', HB2.out] at hc
        injection hc with hc
        injection hc with _ hc _
        cases hc), hr, fun _ => rfl⟩
    obtain ⟨s4, k4⟩ := s3.setSt 0
    exact ⟨rfl, ⟨_, _, _, s4⟩, (KpT.of5 HK.out).trans ((KpT.of40 HK2.out).trans (k3.trans k4)), by
      have h1 := HZ.out
      have h2 := HK2.out.size
      have h3 := HK3.out.size
      have h4 := k4.size
      omega⟩
  · have e1 : (r == 34) = false := by simp [h1]
    by_cases h2 : r = 92
    · subst h2
      have HM : Hid (stepTextP x 92 = (0, { x with st := 6 })) := by unfold Hid stepTextP; rw [if_neg (by decide), if_pos rfl]
      obtain ⟨tv, ad, bv, h⟩ := h
      have HH := hide h
      obtain ⟨c0, c2, c3, f2, f3⟩ := h.cells
      clear h
      go_enter Tryz.func33, Tryz.ntmps33
      go_wp2
      go_ret
      rw [HM.out]
      obtain ⟨s4, k4⟩ := HH.out.setSt 6
      exact ⟨rfl, ⟨_, _, _, s4⟩, k4, k4.size⟩
    · have e2 : (r == 92) = false := by simp [h2]
      have HM : Hid (stepTextP x r = meanP x r) := by unfold Hid stepTextP; rw [if_neg h1, if_neg h2]
      have HX := hide (mean_any h r hb hm)
      clear h
      go_enter Tryz.func33, Tryz.ntmps33
      go_wp2_with (go_at_call 48; refine HX.out.mono ?_; rintro e w1 ⟨rfl, hA, hK, hS⟩; have HA := hide hA; have HK := hide hK; have HS := hide hS; clear hA hK hS)
      go_ret
      rw [HM.out]
      exact ⟨rfl, HA.out, HK.out, HS.out⟩
set_option maxHeartbeats 2000000 in
set_option maxRecDepth 100000 in
theorem stepEsc_any (h : ScA w base p s x) (r : Int) (hb : base ≤ w.heap.size) (hm : x.mn.length ≤ 4294967296) :
    Calls Tryz.prog 34 #[.pointer (some ⟨p, 0, none⟩), .int .i32 r] w fun e w' => ScE w base p s (stepEscP x r) e w' := by
  have HE := hide (fun W => isEsc_any r W)
  cases he : esB r with
  | false =>
    have HM : Hid (stepEscP x r = (83, x)) := by unfold Hid stepEscP; rw [if_neg (by simp [he])]
    rw [he] at HE
    have HH := hide h
    clear h he
    go_enter Tryz.func34, Tryz.ntmps34
    go_wp2_with (go_at_call 24; refine (HE.out _).mono ?_; rintro e wz ⟨rfl, hwz⟩; have hwz := hwz.symm; subst hwz)
    go_ret
    rw [HM.out]
    exact ⟨rfl, HH.out, KpT.refl _ _ _, Nat.le_refl _⟩
  | true =>
    have HM : Hid (stepEscP x r = meanP { x with st := 5 } r) := by unfold Hid stepEscP; rw [if_pos he]
    rw [he] at HE
    obtain ⟨tv, ad, bv, h⟩ := h
    obtain ⟨c0, c2, c3, f2, f3⟩ := h.cells
    obtain ⟨s4, k4⟩ := h.setSt 5
    have K4 := hide k4
    have HX := hide (mean_any ⟨_, _, _, s4⟩ r (by have := k4.size; omega) hm)
    clear h he s4 k4
    go_enter Tryz.func34, Tryz.ntmps34
    go_wp2_with (first | (go_at_call 24; refine (HE.out _).mono ?_; rintro e wz ⟨rfl, hwz⟩; have hwz := hwz.symm; subst hwz) | (go_at_call 48; refine HX.out.mono ?_; rintro e w1 ⟨rfl, hA, hK, hS⟩; have HA := hide hA; have HK := hide hK; have HS := hide hS; clear hA hK hS))
    go_ret
    rw [HM.out]
    exact ⟨rfl, HA.out, K4.out.trans HK.out, Nat.le_trans K4.out.size HS.out⟩
theorem smallKind_any (r : By) (w : World) : Calls Tryz.prog 51 #[.string ⟨r.toArray⟩] w fun e w' => e = .returned (.int .i64 (if wdB r = true then 1 else 2)) ∧ w' = w := by
  have HW := hide (fun W => isWord_any r W)
  cases hb : wdB r
  all_goals
    rw [hb] at HW
    clear hb
    go_enter Tryz.func51, Tryz.ntmps51
    go_wp2_with (go_at_call 14; refine (HW.out _).mono ?_; rintro e wz ⟨rfl, hwz⟩; have hwz := hwz.symm; subst hwz)
    go_ret
    exact ⟨rfl, rfl⟩
set_option maxHeartbeats 2000000 in
set_option maxRecDepth 100000 in
theorem endLetters_any (h : ScA w base p s x) (run : By) (kind most : Int) (hb : base ≤ w.heap.size) (hl : x.tk.length ≤ 4294967296) :
    Calls Tryz.prog 50 #[.pointer (some ⟨p, 0, none⟩), .string ⟨run.toArray⟩, .int .i64 kind, .int .i64 most] w fun e w' => ScE w base p s (endLettersP x run kind most) e w' := by
  have hsz := bs_size run
  by_cases h1 : most < run.length
  · have HM : Hid (endLettersP x run kind most = (82, x)) := by unfold Hid endLettersP; rw [if_pos h1]
    have HH := hide h
    clear h
    go_enter Tryz.func50, Tryz.ntmps50
    go_wp2
    go_ret
    rw [HM.out]
    exact ⟨rfl, HH.out, KpT.refl _ _ _, Nat.le_refl _⟩
  · have HM : Hid (endLettersP x run kind most = (0, { x with tk := x.tk ++ [⟨kind, run, 0, 0, 0, x.fr⟩] })) := by unfold Hid endLettersP; rw [if_neg h1]
    obtain ⟨tv, ad, bv, h⟩ := h
    have HA := hide (h.add ⟨kind, run, 0, 0, 0, 0⟩ hl hb)
    unfold tkV at HA
    clear h
    go_enter Tryz.func50, Tryz.ntmps50
    go_wp2_with (go_at_call 37; refine HA.out.mono ?_; rintro e w1 ⟨rfl, hA, hK, hS⟩; have HA2 := hide hA; have HK := hide hK; have HS := hide hS; clear hA hK hS)
    go_ret
    rw [HM.out]
    exact ⟨rfl, HA2.out, HK.out, HS.out⟩
end
end Go.Proofs.YtkpdbbbeagnjpaaGreatDoor
