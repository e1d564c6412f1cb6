/-
  The scanner as it lies in memory; mean, stepText, stepEscape, endLetters by their contracts. Conditions: at most 2^32 tokens; runes below 128 where they are written.
-/
import Derived.Test.YtlmhofjiobmodaaGreatDoorQ03
import Derived.Shelf.LaysM
import Derived.Shelf.Strconv.Clone
import Derived.Shelf.Strings.Runes
import Derived.Shelf.Strings.IndexAnyAll
import Derived.Test.YtlmhofjiobmodaaGreatDoorProg
namespace Go.Proofs.YtlmhofjiobmodaaGreatDoor
open Go.RowKit Go.Lib

/-- What a call may have turned that has a block p, rows of bytes (5) and of tokens (40) from base on. -/
def KpT (base b : Nat) (w w' : World) : Prop := Kept (fun k => k = b ∨ base ≤ k ∧ ∃ c f, w.heap[k]? = some (.cells c 5 f) ∨ w.heap[k]? = some (.cells c 49 f)) w w'
theorem KpT.refl (base b : Nat) (w : World) : KpT base b w w := Kept.refl _ _
theorem KpT.trans {base b : Nat} {u v w : World} (h : KpT base b u v) (k : KpT base b v w) : KpT base b u w := by
  refine Kept.trans_new h k (fun i hi hG => ?_)
  rcases hG with rfl | ⟨hb, c, f, hc⟩
  · exact .inl rfl
  · by_cases hF : i = b ∨ base ≤ i ∧ ∃ c f, u.heap[i]? = some (.cells c 5 f) ∨ u.heap[i]? = some (.cells c 49 f)
    · exact hF
    · rw [h.block i hi hF] at hc
      exact .inr ⟨hb, c, f, hc⟩
theorem KpT.of_below {base b : Nat} {w w' : World} (h : Below w.heap.size w w') : KpT base b w w' := Kept.of_below h
theorem KpT.to_below {base b : Nat} {w w' : World} (h : KpT base b w w') (hb : base ≤ b) (hs : base ≤ w.heap.size) : Below base w w' := Kept.below h hs (fun i hi => by
  rcases hi with h1 | ⟨h1, _⟩
  · omega
  · exact h1)
theorem KpT.set {base b o : Nat} {w : World} (v : Value) : KpT base b w (w.setCell ⟨b, o, none⟩ v) := (Kept.refl _ w).setCell (p := ⟨b, o, none⟩) (.inl rfl) v
theorem KpT.of5 {base b : Nat} {w w' : World} (h : KpO 5 base b w w') : KpT base b w w' := Kept.mono h (fun i hi => by
  rcases hi with h1 | ⟨hb, c, f, h1⟩
  · exact .inl h1
  · exact .inr ⟨hb, c, f, .inl h1⟩)
theorem KpT.of40 {base b : Nat} {w w' : World} (h : KpO 49 base b w w') : KpT base b w w' := Kept.mono h (fun i hi => by
  rcases hi with h1 | ⟨hb, c, f, h1⟩
  · exact .inl h1
  · exact .inr ⟨hb, c, f, .inr h1⟩)
/-- Whatever is neither stays: an iterator among them. -/
theorem KpT.block' {base b k : Nat} {w w' : World} {o : Obj} (h : KpT base b w w') (ho : w.heap[k]? = some o) (hk : k ≠ b) (h5 : ∀ c f, o ≠ .cells c 5 f) (h40 : ∀ c f, o ≠ .cells c 49 f) : w'.heap[k]? = some o := by
  rw [Kept.block h k (lt_of_block ho) ?_, ho]
  rintro (h1 | ⟨_, c, f, h1 | h1⟩)
  · exact hk h1
  · rw [ho] at h1
    injection h1 with h1
    exact h5 c f h1
  · rw [ho] at h1
    injection h1 with h1
    exact h40 c f h1
/-- What a scanner has: tokens, what it is in, from where, what a text means. -/
structure SS where
  tk : List Tk
  st : Int
  fr : Int
  mn : By
/-- The scanner of a source, at block p. -/
structure Sc (w : World) (base p : Nat) (s : By) (x : SS) (tv ad bv : Value) : Prop where
  blk : w.heap[p]? = some (.cells #[.string ⟨s.toArray⟩, tv, .int .i64 x.st, .int .i64 x.fr, ad, bv] 89 (0, 0))
  ge : base ≤ p
  ad' : ad = .pointer none ∨ ad = .pointer (some ⟨p, 4, none⟩)
  tok : w.ownsRow base 49 6 tv x.tk.length (tkC x.tk)
  row : w.ownsRow base 5 1 bv x.mn.length (Lib.byteCells x.mn)
  nil : x.mn = [] → bv = .slice none 0 0
def ScA (w : World) (base p : Nat) (s : By) (x : SS) : Prop := ∃ tv ad bv, Sc w base p s x tv ad bv
theorem lies47 : liesAt Tryz.prog Tryz.prog.depth 89 (6 / Tryz.prog.cellsOf 89) 4 87 1 = true := by kernel_rfl
section
variable {w w' : World} {base p : Nat} {s : By} {x : SS} {tv ad bv : Value}
theorem Sc.bu (h : Sc w base p s x tv ad bv) : BuB w base p 4 89 #[.string ⟨s.toArray⟩, tv, .int .i64 x.st, .int .i64 x.fr, ad, bv] x.mn := by
  refine ⟨h.blk, h.ge, by simp, lies47, ⟨by decide, by decide⟩, ?_, bv, rfl, h.row⟩
  rcases h.ad' with e | e
  · left; rw [e]; rfl
  · right; rw [e]; rfl
theorem Sc.cells (h : Sc w base p s x tv ad bv) : w.cell? ⟨p, 0, none⟩ = some (.string ⟨s.toArray⟩) ∧ w.cell? ⟨p, 2, none⟩ = some (.int .i64 x.st) ∧ w.cell? ⟨p, 3, none⟩ = some (.int .i64 x.fr) ∧ w.frozen? ⟨p, 2, none⟩ = false ∧ w.frozen? ⟨p, 3, none⟩ = false :=
  ⟨by rw [cell_of_row _ _ _ _ _ _ h.blk]; rfl, by rw [cell_of_row _ _ _ _ _ _ h.blk]; rfl, by rw [cell_of_row _ _ _ _ _ _ h.blk]; rfl, frozen_of_row _ _ _ _ _ h.blk, frozen_of_row _ _ _ _ _ h.blk⟩
theorem Sc.row_ne (h : Sc w base p s x tv ad bv) {size n : Nat} {t : TypeId} {v : Value} {xs : List Value} (hv : w.ownsRow base t size v n xs) (ht : t = 5 ∨ t = 49) (k : Nat) (hk : v.ownBlock = some k) : ¬ k = p := h.bu.apart hv ht k hk
/-- A field of the scanner is stored. -/
theorem Sc.setSt (h : Sc w base p s x tv ad bv) (z : Int) : Sc (w.setCell ⟨p, 2, none⟩ (.int .i64 z)) base p s { x with st := z } tv ad bv ∧ KpT base p w (w.setCell ⟨p, 2, none⟩ (.int .i64 z)) := by
  have k : Kept (fun k => k = p) w (w.setCell ⟨p, 2, none⟩ (.int .i64 z)) := (Kept.refl (fun k => k = p) w).setCell (p := ⟨p, 2, none⟩) rfl _
  exact ⟨⟨by have := block_setCell' h.blk 2 (.int .i64 z); exact this, h.ge, h.ad', own_kept h.tok k (h.row_ne h.tok (.inr rfl)), own_kept h.row k (h.row_ne h.row (.inl rfl)), h.nil⟩, KpT.set _⟩
theorem Sc.setFr (h : Sc w base p s x tv ad bv) (z : Int) : Sc (w.setCell ⟨p, 3, none⟩ (.int .i64 z)) base p s { x with fr := z } tv ad bv ∧ KpT base p w (w.setCell ⟨p, 3, none⟩ (.int .i64 z)) := by
  have k : Kept (fun k => k = p) w (w.setCell ⟨p, 3, none⟩ (.int .i64 z)) := (Kept.refl (fun k => k = p) w).setCell (p := ⟨p, 3, none⟩) rfl _
  exact ⟨⟨by have := block_setCell' h.blk 3 (.int .i64 z); exact this, h.ge, h.ad', own_kept h.tok k (h.row_ne h.tok (.inr rfl)), own_kept h.row k (h.row_ne h.row (.inl rfl)), h.nil⟩, KpT.set _⟩
theorem Sc.below (h : Sc w base p s x tv ad bv) (y : Below w.heap.size w w') : Sc w' base p s x tv ad bv :=
  ⟨(y.block p (lt_of_block h.blk)).trans h.blk, h.ge, h.ad', own_below h.tok y, own_below h.row y, h.nil⟩
/-- A token comes. -/
theorem Sc.add (h : Sc w base p s x tv ad bv) (y : Tk) (hl : x.tk.length ≤ 4294967296) (hb : base ≤ w.heap.size) :
    Calls Tryz.prog 64 #[.pointer (some ⟨p, 0, none⟩), .agg (tkV y)] w fun e w' => e = .returned (.tuple #[]) ∧ ScA w' base p s { x with tk := x.tk ++ [{ y with p := x.fr }] } ∧ KpT base p w w' ∧ w.heap.size ≤ w'.heap.size := by
  refine (add_any p base _ tv _ ad bv x.fr x.tk y w h.blk h.tok hl hb).mono ?_
  rintro e w' ⟨rfl, ⟨tv', h1, h2⟩, k⟩
  exact ⟨rfl, ⟨tv', ad, bv, h1, h.ge, h.ad', by simpa using h2, k.own h.row (by decide) (h.row_ne h.row (.inl rfl)), h.nil⟩, KpT.of40 k, k.size⟩
end
/-- The byte of a rune. -/
def rB (r : Int) : UInt8 := UInt8.ofNat r.toNat
theorem rB_nat {r : Int} (h0 : 0 ≤ r) (h1 : r < 128) : ((rB r).toNat : Int) = r := by
  unfold rB
  rw [UInt8.toNat_ofNat']
  omega
/-- What becomes of a rune that a text means. -/
def meanP (x : SS) (r : Int) : Int × SS := if txB r = true ∧ x.mn.length ≠ 200 then (0, { x with mn := x.mn ++ [rB r] }) else (83, x)
/-- What is told, and how the scanner lies behind it. -/
def ScE (w : World) (base p : Nat) (s : By) (y : Int × SS) (e : Ending) (w' : World) : Prop := e = .returned (.int .i64 y.1) ∧ ScA w' base p s y.2 ∧ KpT base p w w' ∧ w.heap.size ≤ w'.heap.size
section
variable {w : World} {base p : Nat} {s : By} {x : SS}
set_option maxHeartbeats 2000000 in
set_option maxRecDepth 100000 in
theorem mean_any (h : ScA w base p s x) (r : Int) (hb : base ≤ w.heap.size) (hm : x.mn.length ≤ 4294967296) :
    Calls Tryz.prog 90 #[.pointer (some ⟨p, 0, none⟩), .int .i32 r] w fun e w' => ScE w base p s (meanP x r) e w' := by
  obtain ⟨tv, ad, bv, h⟩ := h
  have HT := hide (fun W => isText_any r W)
  have HH := hide h
  by_cases ht : txB r = true
  · rw [ht] at HT
    have hr : 0 ≤ r ∧ r < 128 := by unfold txB at ht; simp at ht; omega
    have HL := hide h.bu.len
    by_cases h2 : x.mn.length = 200
    · have HM : Hid (meanP x r = (83, x)) := by unfold Hid meanP; rw [if_neg (by simp [h2])]
      rw [h2] at HL
      clear h ht
      go_enter Tryz.func90, Tryz.ntmps90
      go_wp2_with (first | (go_at_call 125; refine (HT.out _).mono ?_; rintro e wz ⟨rfl, hwz⟩; have hwz := hwz.symm; subst hwz) | (go_at_call 126; refine HL.out.mono ?_; rintro e wz ⟨rfl, hwz⟩; have hwz := hwz.symm; subst hwz))
      go_ret
      rw [HM.out]
      exact ⟨rfl, ⟨_, _, _, HH.out⟩, KpT.refl _ _ _, Nat.le_refl _⟩
    · have HM : Hid (meanP x r = (0, { x with mn := x.mn ++ [rB r] })) := by unfold Hid meanP; rw [if_pos ⟨ht, h2⟩]
      have h3 : ¬ (x.mn.length : Int) = 200 := by omega
      have HW := hide (h.bu.rune (rB r) (by have := rB_nat hr.1 hr.2; omega) hb (by omega))
      rw [rB_nat hr.1 hr.2] at HW
      clear h ht
      go_enter Tryz.func90, Tryz.ntmps90
      go_wp2_with (first | (go_at_call 125; refine (HT.out _).mono ?_; rintro e wz ⟨rfl, hwz⟩; have hwz := hwz.symm; subst hwz) | (go_at_call 126; refine HL.out.mono ?_; rintro e wz ⟨rfl, hwz⟩; have hwz := hwz.symm; subst hwz) | (go_at_call 127; refine HW.out.mono ?_; rintro e w1 ⟨rfl, ⟨v', hB⟩, hK⟩; have HB := hide hB; have HK := hide hK; clear hB hK))
      go_ret
      rw [HM.out]
      refine ⟨rfl, ⟨tv, .pointer (some ⟨p, 4, none⟩), v', HB.out.blk, HH.out.ge, .inr rfl, ?_, ?_, fun e => by simp at e⟩, KpT.of5 HK.out, HK.out.size⟩
      · exact HK.out.own HH.out.tok (by decide) (HH.out.row_ne HH.out.tok (.inr rfl))
      · obtain ⟨v, hv, hr⟩ := HB.out.row
        simp at hv
        subst hv
        exact hr
  · have ht' : txB r = false := by simpa using ht
    have HM : Hid (meanP x r = (83, x)) := by unfold Hid meanP; rw [if_neg (by simp [ht'])]
    rw [ht'] at HT
    clear h ht ht'
    go_enter Tryz.func90, Tryz.ntmps90
    go_wp2_with (go_at_call 125; refine (HT.out _).mono ?_; rintro e wz ⟨rfl, hwz⟩; have hwz := hwz.symm; subst hwz)
    go_ret
    rw [HM.out]
    exact ⟨rfl, ⟨_, _, _, HH.out⟩, KpT.refl _ _ _, Nat.le_refl _⟩
end
end Go.Proofs.YtlmhofjiobmodaaGreatDoor
/-
  stepText, stepEscape, smallKind, endLetters by their contracts. Conditions: at most 2^32 tokens and bytes.
-/
namespace Go.Proofs.YtlmhofjiobmodaaGreatDoor
open Go.RowKit Go.Lib

def stepTextP (x : SS) (r : Int) : Int × SS := if r = 34 then (0, { x with tk := x.tk ++ [⟨6, x.mn, 0, 0, 0, x.fr⟩], mn := [], st := 0 }) else if r = 92 then (0, { x with st := 6 }) else meanP x r
def stepEscP (x : SS) (r : Int) : Int × SS := if esB r = true then meanP { x with st := 5 } r else (83, x)
def endLettersP (x : SS) (run : By) (kind most : Int) : Int × SS := if most < run.length then (82, x) else (0, { x with tk := x.tk ++ [⟨kind, run, 0, 0, 0, x.fr⟩] })
/-- What follows upon what came. -/
theorem ScE.after {w w1 w' : World} {base p : Nat} {s : By} {y : Int × SS} {e : Ending} (k : KpT base p w w1) (hs : w.heap.size ≤ w1.heap.size) (h : ScE w1 base p s y e w') : ScE w base p s y e w' := ⟨h.1, h.2.1, k.trans h.2.2.1, Nat.le_trans hs h.2.2.2⟩
section
variable {w : World} {base p : Nat} {s : By} {x : SS}
set_option maxHeartbeats 2000000 in
set_option maxRecDepth 100000 in
theorem stepText_any (h : ScA w base p s x) (r : Int) (hb : base ≤ w.heap.size) (hm : x.mn.length ≤ 4294967296) (hl : x.tk.length ≤ 4294967296) :
    Calls Tryz.prog 59 #[.pointer (some ⟨p, 0, none⟩), .int .i32 r] w fun e w' => ScE w base p s (stepTextP x r) e w' := by
  by_cases h1 : r = 34
  · subst h1
    have HM : Hid (stepTextP x 34 = (0, { x with tk := x.tk ++ [⟨6, x.mn, 0, 0, 0, x.fr⟩], mn := [], st := 0 })) := by unfold Hid stepTextP; rw [if_pos rfl]
    obtain ⟨tv, ad, bv, h⟩ := h
    have HH := hide h
    have HS := hide (h.bu.string (fun e => by rw [h.nil e]; rfl))
    clear h
    go_enter Tryz.func59, Tryz.ntmps59
    go_wp2_with (go_at_call 67; refine HS.out.mono ?_; rintro e w1 ⟨rfl, hC, hK, hz⟩; have HC := hide hC; have HK := hide hK; have HZ := hide hz; clear hC hK hz)
    have HT := hide (HK.out.own HH.out.tok (by decide) (HH.out.row_ne HH.out.tok (.inr rfl)))
    have HA := hide (add_any p base _ tv _ ad bv x.fr x.tk ⟨6, x.mn, 0, 0, 0, 0⟩ w1 HC.out.blk HT.out hl (by have := HZ.out; omega))
    unfold tkV at HA
    refine HA.out.mono ?_
    rintro e w2 ⟨rfl, ⟨tv', hB2, hT2⟩, hK2⟩
    have HB2 := hide hB2
    have HT2 := hide hT2
    have HK2 := hide hK2
    clear HA HS hB2 hT2 hK2
    have HC2 : Hid (BuC w2 base p 4 89 #[.string ⟨s.toArray⟩, tv', .int .i64 x.st, .int .i64 x.fr, ad, bv]) := ⟨HB2.out, HC.out.ge, HC.out.ho, HC.out.lies, HC.out.ne⟩
    have HR := hide HC2.out.reset
    go_wp2_with (go_at_call 89; refine HR.out.mono ?_; rintro e w3 ⟨rfl, hB3, hK3⟩; have f2 := frozen_of_row _ _ 2 _ _ hB3.blk; have c2 := cell_of_row _ _ 2 _ _ _ hB3.blk; have HB3 := hide hB3; have HK3 := hide hK3; clear hB3 hK3)
    go_ret
    rw [HM.out]
    have k3 := KpT.of5 HK3.out
    have s3 : Sc w3 base p s { tk := x.tk ++ [⟨6, x.mn, 0, 0, 0, x.fr⟩], st := x.st, fr := x.fr, mn := [] } tv' (.pointer none) (.slice none 0 0) := by
      obtain ⟨v, hv, hr⟩ := HB3.out.row
      simp at hv
      subst hv
      exact ⟨HB3.out.blk, HH.out.ge, .inl rfl, HK3.out.own (by simpa using HT2.out) (by decide) (fun k hk e' => by
        obtain ⟨c, hc⟩ := own_ty HT2.out k hk
        rw [e', HB2.out] at hc
        injection hc with hc
        injection hc with _ hc _
        cases hc), hr, fun _ => rfl⟩
    obtain ⟨s4, k4⟩ := s3.setSt 0
    exact ⟨rfl, ⟨_, _, _, s4⟩, (KpT.of5 HK.out).trans ((KpT.of40 HK2.out).trans (k3.trans k4)), by
      have h1 := HZ.out
      have h2 := HK2.out.size
      have h3 := HK3.out.size
      have h4 := k4.size
      omega⟩
  · have e1 : (r == 34) = false := by simp [h1]
    by_cases h2 : r = 92
    · subst h2
      have HM : Hid (stepTextP x 92 = (0, { x with st := 6 })) := by unfold Hid stepTextP; rw [if_neg (by decide), if_pos rfl]
      obtain ⟨tv, ad, bv, h⟩ := h
      have HH := hide h
      obtain ⟨c0, c2, c3, f2, f3⟩ := h.cells
      clear h
      go_enter Tryz.func59, Tryz.ntmps59
      go_wp2
      go_ret
      rw [HM.out]
      obtain ⟨s4, k4⟩ := HH.out.setSt 6
      exact ⟨rfl, ⟨_, _, _, s4⟩, k4, k4.size⟩
    · have e2 : (r == 92) = false := by simp [h2]
      have HM : Hid (stepTextP x r = meanP x r) := by unfold Hid stepTextP; rw [if_neg h1, if_neg h2]
      have HX := hide (mean_any h r hb hm)
      clear h
      go_enter Tryz.func59, Tryz.ntmps59
      go_wp2_with (go_at_call 90; refine HX.out.mono ?_; rintro e w1 ⟨rfl, hA, hK, hS⟩; have HA := hide hA; have HK := hide hK; have HS := hide hS; clear hA hK hS)
      go_ret
      rw [HM.out]
      exact ⟨rfl, HA.out, HK.out, HS.out⟩
set_option maxHeartbeats 2000000 in
set_option maxRecDepth 100000 in
theorem stepEsc_any (h : ScA w base p s x) (r : Int) (hb : base ≤ w.heap.size) (hm : x.mn.length ≤ 4294967296) :
    Calls Tryz.prog 60 #[.pointer (some ⟨p, 0, none⟩), .int .i32 r] w fun e w' => ScE w base p s (stepEscP x r) e w' := by
  have HE := hide (fun W => isEsc_any r W)
  cases he : esB r with
  | false =>
    have HM : Hid (stepEscP x r = (83, x)) := by unfold Hid stepEscP; rw [if_neg (by simp [he])]
    rw [he] at HE
    have HH := hide h
    clear h he
    go_enter Tryz.func60, Tryz.ntmps60
    go_wp2_with (go_at_call 91; refine (HE.out _).mono ?_; rintro e wz ⟨rfl, hwz⟩; have hwz := hwz.symm; subst hwz)
    go_ret
    rw [HM.out]
    exact ⟨rfl, HH.out, KpT.refl _ _ _, Nat.le_refl _⟩
  | true =>
    have HM : Hid (stepEscP x r = meanP { x with st := 5 } r) := by unfold Hid stepEscP; rw [if_pos he]
    rw [he] at HE
    obtain ⟨tv, ad, bv, h⟩ := h
    obtain ⟨c0, c2, c3, f2, f3⟩ := h.cells
    obtain ⟨s4, k4⟩ := h.setSt 5
    have K4 := hide k4
    have HX := hide (mean_any ⟨_, _, _, s4⟩ r (by have := k4.size; omega) hm)
    clear h he s4 k4
    go_enter Tryz.func60, Tryz.ntmps60
    go_wp2_with (first | (go_at_call 91; refine (HE.out _).mono ?_; rintro e wz ⟨rfl, hwz⟩; have hwz := hwz.symm; subst hwz) | (go_at_call 90; refine HX.out.mono ?_; rintro e w1 ⟨rfl, hA, hK, hS⟩; have HA := hide hA; have HK := hide hK; have HS := hide hS; clear hA hK hS))
    go_ret
    rw [HM.out]
    exact ⟨rfl, HA.out, K4.out.trans HK.out, Nat.le_trans K4.out.size HS.out⟩
theorem smallKind_any (r : By) (w : World) : Calls Tryz.prog 97 #[.string ⟨r.toArray⟩] w fun e w' => e = .returned (.int .i64 (if wdB r = true then 1 else 2)) ∧ w' = w := by
  have HW := hide (fun W => isWord_any r W)
  cases hb : wdB r
  all_goals
    rw [hb] at HW
    clear hb
    go_enter Tryz.func97, Tryz.ntmps97
    go_wp2_with (go_at_call 129; refine (HW.out _).mono ?_; rintro e wz ⟨rfl, hwz⟩; have hwz := hwz.symm; subst hwz)
    go_ret
    exact ⟨rfl, rfl⟩
set_option maxHeartbeats 2000000 in
set_option maxRecDepth 100000 in
theorem endLetters_any (h : ScA w base p s x) (run : By) (kind most : Int) (hb : base ≤ w.heap.size) (hl : x.tk.length ≤ 4294967296) :
    Calls Tryz.prog 96 #[.pointer (some ⟨p, 0, none⟩), .string ⟨run.toArray⟩, .int .i64 kind, .int .i64 most] w fun e w' => ScE w base p s (endLettersP x run kind most) e w' := by
  have hsz := bs_size run
  by_cases h1 : most < run.length
  · have HM : Hid (endLettersP x run kind most = (82, x)) := by unfold Hid endLettersP; rw [if_pos h1]
    have HH := hide h
    clear h
    go_enter Tryz.func96, Tryz.ntmps96
    go_wp2
    go_ret
    rw [HM.out]
    exact ⟨rfl, HH.out, KpT.refl _ _ _, Nat.le_refl _⟩
  · have HM : Hid (endLettersP x run kind most = (0, { x with tk := x.tk ++ [⟨kind, run, 0, 0, 0, x.fr⟩] })) := by unfold Hid endLettersP; rw [if_neg h1]
    obtain ⟨tv, ad, bv, h⟩ := h
    have HA := hide (h.add ⟨kind, run, 0, 0, 0, 0⟩ hl hb)
    unfold tkV at HA
    clear h
    go_enter Tryz.func96, Tryz.ntmps96
    go_wp2_with (go_at_call 64; refine HA.out.mono ?_; rintro e w1 ⟨rfl, hA, hK, hS⟩; have HA2 := hide hA; have HK := hide hK; have HS := hide hS; clear hA hK hS)
    go_ret
    rw [HM.out]
    exact ⟨rfl, HA2.out, HK.out, HS.out⟩
end
end Go.Proofs.YtlmhofjiobmodaaGreatDoor
/-
  Contracts of strings.Clone, strings.ContainsRune and strings.ContainsAny at this program, laid off the library by its own tool. Conditions: as each says.
-/
namespace Go.Proofs
open Go.Shelf
def Tryz.laysM316_ren : Go.Shelf.Ren := ⟨fun | 316 => 128 | n => n, fun | 9 => 9 | 3 => 3 | 4 => 4 | 37 => 64 | 0 => 0 | 127 => 140 | 5 => 5 | n => n, fun | n => n⟩
theorem Tryz.laysM316 : Go.Proofs.LaysM.n316 Tryz.prog Tryz.laysM316_ren := {
  mixed := by kernel_rfl
  f316 := Tryz.func128.trans (congrArg some (by kernel_rfl))
  t0 := Tryz.underlying0
  a0 := Tryz.isAgg0
  z0 := Tryz.sizeOf0
  v0 := Tryz.zeroValue0
  t3 := Tryz.underlying3
  a3 := Tryz.isAgg3
  z3 := Tryz.sizeOf3
  v3 := Tryz.zeroValue3
  t4 := Tryz.underlying4
  a4 := Tryz.isAgg4
  z4 := Tryz.sizeOf4
  v4 := Tryz.zeroValue4
  t9 := Tryz.underlying9
  a9 := Tryz.isAgg9
  z9 := Tryz.sizeOf9
  v9 := Tryz.zeroValue9
  t37 := Tryz.underlying64
  a37 := Tryz.isAgg64
  z37 := Tryz.sizeOf64
  v37 := Tryz.zeroValue64
  t127 := Tryz.underlying140
  a127 := Tryz.isAgg140
  z127 := Tryz.sizeOf140
  v127 := Tryz.zeroValue140
  t5 := Tryz.underlying5
  a5 := Tryz.isAgg5
  z5 := Tryz.sizeOf5
  v5 := Tryz.zeroValue5
  i0 := by kernel_rfl
  i3 := by kernel_rfl
  i4 := by kernel_rfl
  i5 := by kernel_rfl
  i9 := by kernel_rfl
  i37 := by kernel_rfl
  i127 := by kernel_rfl }
open Go.RowKit in
theorem Tryz.stringslite_Clone (s : ByteArray) (w : World) (hlim : s.size ≤ 281474976710656) :
    Calls Tryz.prog 128 #[.string s] w fun e w' => e = .returned (.string s) ∧ Below w.heap.size w w' := Any.stringslite_Clone Tryz.laysM316 s w hlim
def Tryz.lays151_ren : Go.Shelf.Ren := ⟨fun | 151 => 133 | 152 => 155 | 137 => 187 | 119 => 188 | 224 => 189 | 225 => 190 | 217 => 205 | 266 => 221 | n => n, fun | 9 => 9 | 21 => 21 | 4 => 4 | 3 => 3 | 5 => 5 | 0 => 0 | 46 => 112 | n => n, fun | n => n⟩
theorem Tryz.lays151 : Go.Proofs.Lays.n151 Tryz.prog Tryz.lays151_ren := {
  mixed := by kernel_rfl
  f119 := Tryz.func188.trans (congrArg some (by kernel_rfl))
  f137 := Tryz.func187.trans (congrArg some (by kernel_rfl))
  f151 := Tryz.func133.trans (congrArg some (by kernel_rfl))
  f152 := Tryz.func155.trans (congrArg some (by kernel_rfl))
  f217 := Tryz.func205.trans (congrArg some (by kernel_rfl))
  f224 := Tryz.func189.trans (congrArg some (by kernel_rfl))
  f225 := Tryz.func190.trans (congrArg some (by kernel_rfl))
  f266 := Tryz.func221.trans (congrArg some (by kernel_rfl))
  t0 := Tryz.underlying0
  a0 := Tryz.isAgg0
  z0 := Tryz.sizeOf0
  v0 := Tryz.zeroValue0
  t3 := Tryz.underlying3
  a3 := Tryz.isAgg3
  z3 := Tryz.sizeOf3
  v3 := Tryz.zeroValue3
  t4 := Tryz.underlying4
  a4 := Tryz.isAgg4
  z4 := Tryz.sizeOf4
  v4 := Tryz.zeroValue4
  t5 := Tryz.underlying5
  a5 := Tryz.isAgg5
  z5 := Tryz.sizeOf5
  v5 := Tryz.zeroValue5
  t9 := Tryz.underlying9
  a9 := Tryz.isAgg9
  z9 := Tryz.sizeOf9
  v9 := Tryz.zeroValue9
  t21 := Tryz.underlying21
  a21 := Tryz.isAgg21
  z21 := Tryz.sizeOf21
  v21 := Tryz.zeroValue21
  t46 := Tryz.underlying112
  a46 := Tryz.isAgg112
  z46 := Tryz.sizeOf112
  v46 := Tryz.zeroValue112 }
open Go.RowKit Go.Lib in
theorem Tryz.strings_ContainsRune_ascii (s : ByteArray) (r : Int) (w : World) (h0 : 0 ≤ r) (h1 : r < 128) :
    Calls Tryz.prog 133 #[.string s, .int .i32 r] w fun e w' => e = .returned (.bool (decide (0 ≤ Lib.indexByte s.data.toList r.toNat.toUInt8))) ∧ w' = w := Any.strings_ContainsRune_ascii Tryz.lays151 s r w h0 h1
def Tryz.lays150_ren : Go.Shelf.Ren := ⟨fun | 150 => 98 | 153 => 130 | 152 => 155 | 226 => 156 | 227 => 157 | 228 => 158 | 137 => 187 | 119 => 188 | 224 => 189 | 225 => 190 | 217 => 205 | 266 => 221 | n => n, fun | 9 => 9 | 4 => 4 | 3 => 3 | 5 => 5 | 21 => 21 | 117 => 189 | 116 => 188 | 0 => 0 | 46 => 112 | 124 => 208 | n => n, fun | n => n⟩
theorem Tryz.lays150 : Go.Proofs.Lays.n150 Tryz.prog Tryz.lays150_ren := {
  mixed := by kernel_rfl
  f119 := Tryz.func188.trans (congrArg some (by kernel_rfl))
  f137 := Tryz.func187.trans (congrArg some (by kernel_rfl))
  f150 := Tryz.func98.trans (congrArg some (by kernel_rfl))
  f152 := Tryz.func155.trans (congrArg some (by kernel_rfl))
  f153 := Tryz.func130.trans (congrArg some (by kernel_rfl))
  f217 := Tryz.func205.trans (congrArg some (by kernel_rfl))
  f224 := Tryz.func189.trans (congrArg some (by kernel_rfl))
  f225 := Tryz.func190.trans (congrArg some (by kernel_rfl))
  f226 := Tryz.func156.trans (congrArg some (by kernel_rfl))
  f227 := Tryz.func157.trans (congrArg some (by kernel_rfl))
  f228 := Tryz.func158.trans (congrArg some (by kernel_rfl))
  f266 := Tryz.func221.trans (congrArg some (by kernel_rfl))
  t0 := Tryz.underlying0
  a0 := Tryz.isAgg0
  z0 := Tryz.sizeOf0
  v0 := Tryz.zeroValue0
  t3 := Tryz.underlying3
  a3 := Tryz.isAgg3
  z3 := Tryz.sizeOf3
  v3 := Tryz.zeroValue3
  t4 := Tryz.underlying4
  a4 := Tryz.isAgg4
  z4 := Tryz.sizeOf4
  v4 := Tryz.zeroValue4
  t5 := Tryz.underlying5
  a5 := Tryz.isAgg5
  z5 := Tryz.sizeOf5
  v5 := Tryz.zeroValue5
  t9 := Tryz.underlying9
  a9 := Tryz.isAgg9
  z9 := Tryz.sizeOf9
  v9 := Tryz.zeroValue9
  t21 := Tryz.underlying21
  a21 := Tryz.isAgg21
  z21 := Tryz.sizeOf21
  v21 := Tryz.zeroValue21
  t46 := Tryz.underlying112
  a46 := Tryz.isAgg112
  z46 := Tryz.sizeOf112
  v46 := Tryz.zeroValue112
  t116 := Tryz.underlying188
  a116 := Tryz.isAgg188
  z116 := Tryz.sizeOf188
  t117 := Tryz.underlying189
  a117 := Tryz.isAgg189
  z117 := Tryz.sizeOf189
  v117 := Tryz.zeroValue189
  t124 := Tryz.underlying208
  a124 := Tryz.isAgg208
  z124 := Tryz.sizeOf208
  v124 := Tryz.zeroValue208 }
open Go.RowKit Go.Lib in
theorem Tryz.strings_ContainsAny_laid (s chars : ByteArray) (w : World) (hs : s.size < 4294967281) (hcs : chars.size < 4294967281) (has : ∀ (j : Nat) b, s.data.toList[j]? = some b → b.toNat < 128) (hac : ∀ (j : Nat) b, chars.data.toList[j]? = some b → b.toNat < 128) :
    Calls Tryz.prog 98 #[.string s, .string chars] w fun e w' => e = .returned (.bool (Lib.containsAny s.data.toList chars.data.toList)) ∧ Below w.heap.size w w' := Any.strings_ContainsAny_laid Tryz.lays150 (by kernel_rfl) s chars w hs hcs has hac
end Go.Proofs
/-
  isSign (of a rune below 128), begin by their contracts. Conditions: a rune below 128; at most 2^32 tokens.
-/
namespace Go.Proofs.YtlmhofjiobmodaaGreatDoor
open Go.RowKit Go.Lib

def signsL : By := [123, 125, 40, 41, 44, 59, 61, 126, 45]
/-- Is it a sign? -/
def sgB (r : Int) : Bool := decide (r = 123) || decide (r = 125) || decide (r = 40) || decide (r = 41) || decide (r = 44) || decide (r = 59) || decide (r = 61) || decide (r = 126) || decide (r = 45)
set_option maxRecDepth 100000 in
theorem sg_idx : ∀ c : Fin 128, decide (0 ≤ Lib.indexByte signsL (((c.val : Nat) : Int).toNat.toUInt8)) = sgB (c.val : Int) := by decide +kernel
theorem isSign_any (r : Int) (h0 : 0 ≤ r) (h1 : r < 128) (w : World) : Calls Tryz.prog 102 #[.int .i32 r] w fun e w' => e = .returned (.bool (sgB r)) ∧ w' = w := by
  have HC := hide (Tryz.strings_ContainsRune_ascii ⟨#[123, 125, 40, 41, 44, 59, 61, 126, 45]⟩ r w h0 h1)
  have e : decide (0 ≤ Lib.indexByte signsL r.toNat.toUInt8) = sgB r := by
    have := sg_idx ⟨r.toNat, by omega⟩
    rw [show ((r.toNat : Nat) : Int) = r by omega] at this
    exact this
  have HC2 : Hid (Calls Tryz.prog 133 #[.string ⟨#[123, 125, 40, 41, 44, 59, 61, 126, 45]⟩, .int .i32 r] w fun e w' => e = .returned (.bool (sgB r)) ∧ w' = w) := by rw [← e]; exact HC
  clear HC e
  go_enter Tryz.func102, Tryz.ntmps102
  go_wp2_with (go_at_call 133; refine HC2.out.mono ?_; rintro e wz ⟨rfl, hwz⟩; have hwz := hwz.symm; subst hwz)
  go_ret
  exact ⟨rfl, rfl⟩
/-- What begins with a rune at a place. -/
def beginP (x : SS) (q r : Int) : Int × SS :=
  if blB r = true then (0, { x with fr := q, st := 0 })
  else if r = 35 then (0, { x with fr := q, st := 1 })
  else if smB r = true then (0, { x with fr := q, st := 2 })
  else if grB r = true then (0, { x with fr := q, st := 3 })
  else if dgB r = true then (0, { x with fr := q, st := 4 })
  else if r = 34 then (0, { x with fr := q, st := 5 })
  else if sgB r = true then (0, { x with fr := q, st := 0, tk := x.tk ++ [⟨7, [rB r], 0, 0, 0, q⟩] })
  else (80, { x with fr := q, st := 0 })
section
variable {w : World} {base p : Nat} {s : By} {x : SS}
set_option maxHeartbeats 4000000 in
set_option maxRecDepth 100000 in
theorem begin_any (h : ScA w base p s x) (q r : Int) (h0 : 0 ≤ r) (h1 : r < 128) (hb : base ≤ w.heap.size) (hl : x.tk.length ≤ 4294967296) :
    Calls Tryz.prog 63 #[.pointer (some ⟨p, 0, none⟩), .int .i64 q, .int .i32 r] w fun e w' => ScE w base p s (beginP x q r) e w' := by
  obtain ⟨tv, ad, bv, h⟩ := h
  obtain ⟨c0, c2, c3, f2, f3⟩ := h.cells
  obtain ⟨s1, k1⟩ := h.setFr q
  obtain ⟨s2, k2⟩ := s1.setSt 0
  have K2 := hide (k1.trans k2)
  have S2 := hide s2
  have H1 := hide (fun W => isBlank_any r W)
  have H2 := hide (fun W => isSmall_any r W)
  have H3 := hide (fun W => isGreat_any r W)
  have H4 := hide (fun W => isDigit_any r W)
  have H5 := hide (fun W => isSign_any r h0 h1 W)
  clear h s1 s2 k1 k2
  go_enter Tryz.func63, Tryz.ntmps63
  go_upto_region 4 with fail
  obtain ⟨w2, hw2⟩ : ∃ w2, w2 = (w.setCell ⟨p, 3, none⟩ (.int .i64 q)).setCell ⟨p, 2, none⟩ (.int .i64 0) := ⟨_, rfl⟩
  rw [← hw2] at S2 K2 ⊢
  clear hw2 c0 c2 c3 f2 f3
  obtain ⟨d0, d2, d3, e2, e3⟩ := S2.out.cells
  have HS := hide K2.out.size
  by_cases hbl : blB r = true
  · rw [hbl] at H1
    have HM : Hid (beginP x q r = (0, { x with fr := q, st := 0 })) := by unfold Hid beginP; rw [if_pos hbl]
    clear hbl
    go_wp2_with (first | (go_at_call 101; refine (H1.out _).mono ?_; rintro e wz ⟨rfl, hwz⟩; have hwz := hwz.symm; subst hwz) | (go_at_call 92; refine (H2.out _).mono ?_; rintro e wz ⟨rfl, hwz⟩; have hwz := hwz.symm; subst hwz) | (go_at_call 94; refine (H3.out _).mono ?_; rintro e wz ⟨rfl, hwz⟩; have hwz := hwz.symm; subst hwz) | (go_at_call 93; refine (H4.out _).mono ?_; rintro e wz ⟨rfl, hwz⟩; have hwz := hwz.symm; subst hwz) | (go_at_call 102; refine (H5.out _).mono ?_; rintro e wz ⟨rfl, hwz⟩; have hwz := hwz.symm; subst hwz))
    go_ret
    rw [HM.out]
    exact ⟨rfl, ⟨_, _, _, S2.out⟩, K2.out, HS.out⟩
  · have hbl' : blB r = false := by simpa using hbl
    rw [hbl'] at H1
    by_cases h35 : r = 35
    · have HM : Hid (beginP x q r = (0, { x with fr := q, st := 1 })) := by unfold Hid beginP; rw [if_neg hbl, if_pos h35]
      subst h35
      clear hbl hbl'
      go_wp2_with (first | (go_at_call 101; refine (H1.out _).mono ?_; rintro e wz ⟨rfl, hwz⟩; have hwz := hwz.symm; subst hwz) | (go_at_call 92; refine (H2.out _).mono ?_; rintro e wz ⟨rfl, hwz⟩; have hwz := hwz.symm; subst hwz) | (go_at_call 94; refine (H3.out _).mono ?_; rintro e wz ⟨rfl, hwz⟩; have hwz := hwz.symm; subst hwz) | (go_at_call 93; refine (H4.out _).mono ?_; rintro e wz ⟨rfl, hwz⟩; have hwz := hwz.symm; subst hwz) | (go_at_call 102; refine (H5.out _).mono ?_; rintro e wz ⟨rfl, hwz⟩; have hwz := hwz.symm; subst hwz))
      go_ret
      rw [HM.out]
      obtain ⟨s4, k4⟩ := S2.out.setSt 1
      exact ⟨rfl, ⟨_, _, _, s4⟩, K2.out.trans k4, Nat.le_trans HS.out k4.size⟩
    · have e35 : (r == 35) = false := by simp [h35]
      by_cases hsm : smB r = true
      · rw [hsm] at H2
        have HM : Hid (beginP x q r = (0, { x with fr := q, st := 2 })) := by unfold Hid beginP; rw [if_neg hbl, if_neg h35, if_pos hsm]
        clear hbl hbl' hsm
        go_wp2_with (first | (go_at_call 101; refine (H1.out _).mono ?_; rintro e wz ⟨rfl, hwz⟩; have hwz := hwz.symm; subst hwz) | (go_at_call 92; refine (H2.out _).mono ?_; rintro e wz ⟨rfl, hwz⟩; have hwz := hwz.symm; subst hwz) | (go_at_call 94; refine (H3.out _).mono ?_; rintro e wz ⟨rfl, hwz⟩; have hwz := hwz.symm; subst hwz) | (go_at_call 93; refine (H4.out _).mono ?_; rintro e wz ⟨rfl, hwz⟩; have hwz := hwz.symm; subst hwz) | (go_at_call 102; refine (H5.out _).mono ?_; rintro e wz ⟨rfl, hwz⟩; have hwz := hwz.symm; subst hwz))
        go_ret
        rw [HM.out]
        obtain ⟨s4, k4⟩ := S2.out.setSt 2
        exact ⟨rfl, ⟨_, _, _, s4⟩, K2.out.trans k4, Nat.le_trans HS.out k4.size⟩
      · have hsm' : smB r = false := by simpa using hsm
        rw [hsm'] at H2
        by_cases hgr : grB r = true
        · rw [hgr] at H3
          have HM : Hid (beginP x q r = (0, { x with fr := q, st := 3 })) := by unfold Hid beginP; rw [if_neg hbl, if_neg h35, if_neg hsm, if_pos hgr]
          clear hbl hbl' hsm hsm' hgr
          go_wp2_with (first | (go_at_call 101; refine (H1.out _).mono ?_; rintro e wz ⟨rfl, hwz⟩; have hwz := hwz.symm; subst hwz) | (go_at_call 92; refine (H2.out _).mono ?_; rintro e wz ⟨rfl, hwz⟩; have hwz := hwz.symm; subst hwz) | (go_at_call 94; refine (H3.out _).mono ?_; rintro e wz ⟨rfl, hwz⟩; have hwz := hwz.symm; subst hwz) | (go_at_call 93; refine (H4.out _).mono ?_; rintro e wz ⟨rfl, hwz⟩; have hwz := hwz.symm; subst hwz) | (go_at_call 102; refine (H5.out _).mono ?_; rintro e wz ⟨rfl, hwz⟩; have hwz := hwz.symm; subst hwz))
          go_ret
          rw [HM.out]
          obtain ⟨s4, k4⟩ := S2.out.setSt 3
          exact ⟨rfl, ⟨_, _, _, s4⟩, K2.out.trans k4, Nat.le_trans HS.out k4.size⟩
        · have hgr' : grB r = false := by simpa using hgr
          rw [hgr'] at H3
          by_cases hdg : dgB r = true
          · rw [hdg] at H4
            have HM : Hid (beginP x q r = (0, { x with fr := q, st := 4 })) := by unfold Hid beginP; rw [if_neg hbl, if_neg h35, if_neg hsm, if_neg hgr, if_pos hdg]
            clear hbl hbl' hsm hsm' hgr hgr' hdg
            go_wp2_with (first | (go_at_call 101; refine (H1.out _).mono ?_; rintro e wz ⟨rfl, hwz⟩; have hwz := hwz.symm; subst hwz) | (go_at_call 92; refine (H2.out _).mono ?_; rintro e wz ⟨rfl, hwz⟩; have hwz := hwz.symm; subst hwz) | (go_at_call 94; refine (H3.out _).mono ?_; rintro e wz ⟨rfl, hwz⟩; have hwz := hwz.symm; subst hwz) | (go_at_call 93; refine (H4.out _).mono ?_; rintro e wz ⟨rfl, hwz⟩; have hwz := hwz.symm; subst hwz) | (go_at_call 102; refine (H5.out _).mono ?_; rintro e wz ⟨rfl, hwz⟩; have hwz := hwz.symm; subst hwz))
            go_ret
            rw [HM.out]
            obtain ⟨s4, k4⟩ := S2.out.setSt 4
            exact ⟨rfl, ⟨_, _, _, s4⟩, K2.out.trans k4, Nat.le_trans HS.out k4.size⟩
          · have hdg' : dgB r = false := by simpa using hdg
            rw [hdg'] at H4
            by_cases h34 : r = 34
            · have HM : Hid (beginP x q r = (0, { x with fr := q, st := 5 })) := by unfold Hid beginP; rw [if_neg hbl, if_neg h35, if_neg hsm, if_neg hgr, if_neg hdg, if_pos h34]
              subst h34
              clear hbl hbl' hsm hsm' hgr hgr' hdg hdg'
              go_wp2_with (first | (go_at_call 101; refine (H1.out _).mono ?_; rintro e wz ⟨rfl, hwz⟩; have hwz := hwz.symm; subst hwz) | (go_at_call 92; refine (H2.out _).mono ?_; rintro e wz ⟨rfl, hwz⟩; have hwz := hwz.symm; subst hwz) | (go_at_call 94; refine (H3.out _).mono ?_; rintro e wz ⟨rfl, hwz⟩; have hwz := hwz.symm; subst hwz) | (go_at_call 93; refine (H4.out _).mono ?_; rintro e wz ⟨rfl, hwz⟩; have hwz := hwz.symm; subst hwz) | (go_at_call 102; refine (H5.out _).mono ?_; rintro e wz ⟨rfl, hwz⟩; have hwz := hwz.symm; subst hwz))
              go_ret
              rw [HM.out]
              obtain ⟨s4, k4⟩ := S2.out.setSt 5
              exact ⟨rfl, ⟨_, _, _, s4⟩, K2.out.trans k4, Nat.le_trans HS.out k4.size⟩
            · have e34 : (r == 34) = false := by simp [h34]
              by_cases hsg : sgB r = true
              · rw [hsg] at H5
                have HM : Hid (beginP x q r = (0, { x with fr := q, st := 0, tk := x.tk ++ [⟨7, [rB r], 0, 0, 0, q⟩] })) := by unfold Hid beginP; rw [if_neg hbl, if_neg h35, if_neg hsm, if_neg hgr, if_neg hdg, if_neg h34, if_pos hsg]
                have HA := hide (S2.out.add ⟨7, [rB r], 0, 0, 0, 0⟩ hl (by have := HS.out; omega))
                unfold tkV at HA
                have hcs : r = 123 ∨ r = 125 ∨ r = 40 ∨ r = 41 ∨ r = 44 ∨ r = 59 ∨ r = 61 ∨ r = 126 ∨ r = 45 := by simpa [sgB, or_assoc] using hsg
                clear hbl hbl' hsm hsm' hgr hgr' hdg hdg' hsg
                rcases hcs with rfl | rfl | rfl | rfl | rfl | rfl | rfl | rfl | rfl
                all_goals
                  go_wp2_with (first | (go_at_call 101; refine (H1.out _).mono ?_; rintro e wz ⟨rfl, hwz⟩; have hwz := hwz.symm; subst hwz) | (go_at_call 92; refine (H2.out _).mono ?_; rintro e wz ⟨rfl, hwz⟩; have hwz := hwz.symm; subst hwz) | (go_at_call 94; refine (H3.out _).mono ?_; rintro e wz ⟨rfl, hwz⟩; have hwz := hwz.symm; subst hwz) | (go_at_call 93; refine (H4.out _).mono ?_; rintro e wz ⟨rfl, hwz⟩; have hwz := hwz.symm; subst hwz) | (go_at_call 102; refine (H5.out _).mono ?_; rintro e wz ⟨rfl, hwz⟩; have hwz := hwz.symm; subst hwz) | (go_at_call 64; refine HA.out.mono ?_; rintro e w3 ⟨rfl, hA, hK, hS⟩; have HA2 := hide hA; have HK := hide hK; have HS3 := hide hS; clear hA hK hS))
                  go_ret
                  rw [HM.out]
                  exact ⟨rfl, HA2.out, K2.out.trans HK.out, Nat.le_trans HS.out HS3.out⟩
              · have hsg' : sgB r = false := by simpa using hsg
                rw [hsg'] at H5
                have HM : Hid (beginP x q r = (80, { x with fr := q, st := 0 })) := by unfold Hid beginP; rw [if_neg hbl, if_neg h35, if_neg hsm, if_neg hgr, if_neg hdg, if_neg h34, if_neg hsg]
                clear hbl hbl' hsm hsm' hgr hgr' hdg hdg' hsg hsg'
                go_wp2_with (first | (go_at_call 101; refine (H1.out _).mono ?_; rintro e wz ⟨rfl, hwz⟩; have hwz := hwz.symm; subst hwz) | (go_at_call 92; refine (H2.out _).mono ?_; rintro e wz ⟨rfl, hwz⟩; have hwz := hwz.symm; subst hwz) | (go_at_call 94; refine (H3.out _).mono ?_; rintro e wz ⟨rfl, hwz⟩; have hwz := hwz.symm; subst hwz) | (go_at_call 93; refine (H4.out _).mono ?_; rintro e wz ⟨rfl, hwz⟩; have hwz := hwz.symm; subst hwz) | (go_at_call 102; refine (H5.out _).mono ?_; rintro e wz ⟨rfl, hwz⟩; have hwz := hwz.symm; subst hwz))
                go_ret
                rw [HM.out]
                exact ⟨rfl, ⟨_, _, _, S2.out⟩, K2.out, HS.out⟩
end
end Go.Proofs.YtlmhofjiobmodaaGreatDoor
