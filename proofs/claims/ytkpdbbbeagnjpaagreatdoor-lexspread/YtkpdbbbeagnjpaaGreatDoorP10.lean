/-
  stepText, stepEscape, smallKind, endLetters by their contracts. Conditions: at most 2^32 tokens and bytes.
-/
import Derived.Test.YtkpdbbbeagnjpaaGreatDoorP09
import Derived.Shelf.LaysM
import Derived.Shelf.Strconv.Clone
import Derived.Shelf.Strings.Runes
import Derived.Shelf.Strings.IndexAnyAll
import Derived.Test.YtkpdbbbeagnjpaaGreatDoorProg
namespace Go.Proofs.YtkpdbbbeagnjpaaGreatDoor
open Go.RowKit Go.Lib

def stepTextP (x : SS) (r : Int) : Int × SS := if r = 34 then (0, { x with tk := x.tk ++ [⟨6, x.mn, 0, 0, 0, x.fr⟩], mn := [], st := 0 }) else if r = 92 then (0, { x with st := 6 }) else meanP x r
def stepEscP (x : SS) (r : Int) : Int × SS := if esB r = true then meanP { x with st := 5 } r else (83, x)
def endLettersP (x : SS) (run : By) (kind most : Int) : Int × SS := if most < run.length then (82, x) else (0, { x with tk := x.tk ++ [⟨kind, run, 0, 0, 0, x.fr⟩] })
/-- What follows upon what came. -/
theorem ScE.after {w w1 w' : World} {base p : Nat} {s : By} {y : Int × SS} {e : Ending} (k : KpT base p w w1) (hs : w.heap.size ≤ w1.heap.size) (h : ScE w1 base p s y e w') : ScE w base p s y e w' := ⟨h.1, h.2.1, k.trans h.2.2.1, Nat.le_trans hs h.2.2.2⟩
section
variable {w : World} {base p : Nat} {s : By} {x : SS}
set_option maxHeartbeats 2000000 in
set_option maxRecDepth 100000 in
theorem stepText_any (h : ScA w base p s x) (r : Int) (hb : base ≤ w.heap.size) (hm : x.mn.length ≤ 4294967296) (hl : x.tk.length ≤ 4294967296) :
    Calls Tryz.prog 33 #[.pointer (some ⟨p, 0, none⟩), .int .i32 r] w fun e w' => ScE w base p s (stepTextP x r) e w' := by
  by_cases h1 : r = 34
  · subst h1
    have HM : Hid (stepTextP x 34 = (0, { x with tk := x.tk ++ [⟨6, x.mn, 0, 0, 0, x.fr⟩], mn := [], st := 0 })) := by unfold Hid stepTextP; rw [if_pos rfl]
    obtain ⟨tv, ad, bv, h⟩ := h
    have HH := hide h
    have HS := hide (h.bu.string (fun e => by rw [h.nil e]; rfl))
    clear h
    go_enter Tryz.func33, Tryz.ntmps33
    go_wp2_with (go_at_call 26; refine HS.out.mono ?_; rintro e w1 ⟨rfl, hC, hK, hz⟩; have HC := hide hC; have HK := hide hK; have HZ := hide hz; clear hC hK hz)
    have HT := hide (HK.out.own HH.out.tok (by decide) (HH.out.row_ne HH.out.tok (.inr rfl)))
    have HA := hide (add_any p base _ tv _ ad bv x.fr x.tk ⟨6, x.mn, 0, 0, 0, 0⟩ w1 HC.out.blk HT.out hl (by have := HZ.out; omega))
    unfold tkV at HA
    refine HA.out.mono ?_
    rintro e w2 ⟨rfl, ⟨tv', hB2, hT2⟩, hK2⟩
    have HB2 := hide hB2
    have HT2 := hide hT2
    have HK2 := hide hK2
    clear HA HS hB2 hT2 hK2
    have HC2 : Hid (BuC w2 base p 4 47 #[.string ⟨s.toArray⟩, tv', .int .i64 x.st, .int .i64 x.fr, ad, bv]) := ⟨HB2.out, HC.out.ge, HC.out.ho, HC.out.lies, HC.out.ne⟩
    have HR := hide HC2.out.reset
    go_wp2_with (go_at_call 47; refine HR.out.mono ?_; rintro e w3 ⟨rfl, hB3, hK3⟩; have f2 := frozen_of_row _ _ 2 _ _ hB3.blk; have c2 := cell_of_row _ _ 2 _ _ _ hB3.blk; have HB3 := hide hB3; have HK3 := hide hK3; clear hB3 hK3)
    go_ret
    rw [HM.out]
    have k3 := KpT.of5 HK3.out
    have s3 : Sc w3 base p s { tk := x.tk ++ [⟨6, x.mn, 0, 0, 0, x.fr⟩], st := x.st, fr := x.fr, mn := [] } tv' (.pointer none) (.slice none 0 0) := by
      obtain ⟨v, hv, hr⟩ := HB3.out.row
      simp at hv
      subst hv
      exact ⟨HB3.out.blk, HH.out.ge, .inl rfl, HK3.out.own (by simpa using HT2.out) (by decide) (fun k hk e' => by
        obtain ⟨c, hc⟩ := own_ty HT2.out k hk
        rw [e', HB2.out] at hc
        injection hc with hc
        injection hc with _ hc _
        cases hc), hr, fun _ => rfl⟩
    obtain ⟨s4, k4⟩ := s3.setSt 0
    exact ⟨rfl, ⟨_, _, _, s4⟩, (KpT.of5 HK.out).trans ((KpT.of40 HK2.out).trans (k3.trans k4)), by
      have h1 := HZ.out
      have h2 := HK2.out.size
      have h3 := HK3.out.size
      have h4 := k4.size
      omega⟩
  · have e1 : (r == 34) = false := by simp [h1]
    by_cases h2 : r = 92
    · subst h2
      have HM : Hid (stepTextP x 92 = (0, { x with st := 6 })) := by unfold Hid stepTextP; rw [if_neg (by decide), if_pos rfl]
      obtain ⟨tv, ad, bv, h⟩ := h
      have HH := hide h
      obtain ⟨c0, c2, c3, f2, f3⟩ := h.cells
      clear h
      go_enter Tryz.func33, Tryz.ntmps33
      go_wp2
      go_ret
      rw [HM.out]
      obtain ⟨s4, k4⟩ := HH.out.setSt 6
      exact ⟨rfl, ⟨_, _, _, s4⟩, k4, k4.size⟩
    · have e2 : (r == 92) = false := by simp [h2]
      have HM : Hid (stepTextP x r = meanP x r) := by unfold Hid stepTextP; rw [if_neg h1, if_neg h2]
      have HX := hide (mean_any h r hb hm)
      clear h
      go_enter Tryz.func33, Tryz.ntmps33
      go_wp2_with (go_at_call 48; refine HX.out.mono ?_; rintro e w1 ⟨rfl, hA, hK, hS⟩; have HA := hide hA; have HK := hide hK; have HS := hide hS; clear hA hK hS)
      go_ret
      rw [HM.out]
      exact ⟨rfl, HA.out, HK.out, HS.out⟩
set_option maxHeartbeats 2000000 in
set_option maxRecDepth 100000 in
theorem stepEsc_any (h : ScA w base p s x) (r : Int) (hb : base ≤ w.heap.size) (hm : x.mn.length ≤ 4294967296) :
    Calls Tryz.prog 34 #[.pointer (some ⟨p, 0, none⟩), .int .i32 r] w fun e w' => ScE w base p s (stepEscP x r) e w' := by
  have HE := hide (fun W => isEsc_any r W)
  cases he : esB r with
  | false =>
    have HM : Hid (stepEscP x r = (83, x)) := by unfold Hid stepEscP; rw [if_neg (by simp [he])]
    rw [he] at HE
    have HH := hide h
    clear h he
    go_enter Tryz.func34, Tryz.ntmps34
    go_wp2_with (go_at_call 24; refine (HE.out _).mono ?_; rintro e wz ⟨rfl, hwz⟩; have hwz := hwz.symm; subst hwz)
    go_ret
    rw [HM.out]
    exact ⟨rfl, HH.out, KpT.refl _ _ _, Nat.le_refl _⟩
  | true =>
    have HM : Hid (stepEscP x r = meanP { x with st := 5 } r) := by unfold Hid stepEscP; rw [if_pos he]
    rw [he] at HE
    obtain ⟨tv, ad, bv, h⟩ := h
    obtain ⟨c0, c2, c3, f2, f3⟩ := h.cells
    obtain ⟨s4, k4⟩ := h.setSt 5
    have K4 := hide k4
    have HX := hide (mean_any ⟨_, _, _, s4⟩ r (by have := k4.size; omega) hm)
    clear h he s4 k4
    go_enter Tryz.func34, Tryz.ntmps34
    go_wp2_with (first | (go_at_call 24; refine (HE.out _).mono ?_; rintro e wz ⟨rfl, hwz⟩; have hwz := hwz.symm; subst hwz) | (go_at_call 48; refine HX.out.mono ?_; rintro e w1 ⟨rfl, hA, hK, hS⟩; have HA := hide hA; have HK := hide hK; have HS := hide hS; clear hA hK hS))
    go_ret
    rw [HM.out]
    exact ⟨rfl, HA.out, K4.out.trans HK.out, Nat.le_trans K4.out.size HS.out⟩
theorem smallKind_any (r : By) (w : World) : Calls Tryz.prog 51 #[.string ⟨r.toArray⟩] w fun e w' => e = .returned (.int .i64 (if wdB r = true then 1 else 2)) ∧ w' = w := by
  have HW := hide (fun W => isWord_any r W)
  cases hb : wdB r
  all_goals
    rw [hb] at HW
    clear hb
    go_enter Tryz.func51, Tryz.ntmps51
    go_wp2_with (go_at_call 14; refine (HW.out _).mono ?_; rintro e wz ⟨rfl, hwz⟩; have hwz := hwz.symm; subst hwz)
    go_ret
    exact ⟨rfl, rfl⟩
set_option maxHeartbeats 2000000 in
set_option maxRecDepth 100000 in
theorem endLetters_any (h : ScA w base p s x) (run : By) (kind most : Int) (hb : base ≤ w.heap.size) (hl : x.tk.length ≤ 4294967296) :
    Calls Tryz.prog 50 #[.pointer (some ⟨p, 0, none⟩), .string ⟨run.toArray⟩, .int .i64 kind, .int .i64 most] w fun e w' => ScE w base p s (endLettersP x run kind most) e w' := by
  have hsz := bs_size run
  by_cases h1 : most < run.length
  · have HM : Hid (endLettersP x run kind most = (82, x)) := by unfold Hid endLettersP; rw [if_pos h1]
    have HH := hide h
    clear h
    go_enter Tryz.func50, Tryz.ntmps50
    go_wp2
    go_ret
    rw [HM.out]
    exact ⟨rfl, HH.out, KpT.refl _ _ _, Nat.le_refl _⟩
  · have HM : Hid (endLettersP x run kind most = (0, { x with tk := x.tk ++ [⟨kind, run, 0, 0, 0, x.fr⟩] })) := by unfold Hid endLettersP; rw [if_neg h1]
    obtain ⟨tv, ad, bv, h⟩ := h
    have HA := hide (h.add ⟨kind, run, 0, 0, 0, 0⟩ hl hb)
    unfold tkV at HA
    clear h
    go_enter Tryz.func50, Tryz.ntmps50
    go_wp2_with (go_at_call 37; refine HA.out.mono ?_; rintro e w1 ⟨rfl, hA, hK, hS⟩; have HA2 := hide hA; have HK := hide hK; have HS := hide hS; clear hA hK hS)
    go_ret
    rw [HM.out]
    exact ⟨rfl, HA2.out, HK.out, HS.out⟩
end
end Go.Proofs.YtkpdbbbeagnjpaaGreatDoor
/-
  Contracts of strings.Clone, strings.ContainsRune and strings.ContainsAny at this program, laid off the library by its own tool. Conditions: as each says.
-/
namespace Go.Proofs
open Go.Shelf
def Tryz.laysM316_ren : Go.Shelf.Ren := ⟨fun | 316 => 62 | n => n, fun | 9 => 9 | 3 => 3 | 4 => 4 | 37 => 36 | 0 => 0 | 127 => 73 | 5 => 5 | n => n, fun | n => n⟩
theorem Tryz.laysM316 : Go.Proofs.LaysM.n316 Tryz.prog Tryz.laysM316_ren := {
  mixed := by kernel_rfl
  f316 := Tryz.func62.trans (congrArg some (by kernel_rfl))
  t0 := Tryz.underlying0
  a0 := Tryz.isAgg0
  z0 := Tryz.sizeOf0
  v0 := Tryz.zeroValue0
  t3 := Tryz.underlying3
  a3 := Tryz.isAgg3
  z3 := Tryz.sizeOf3
  v3 := Tryz.zeroValue3
  t4 := Tryz.underlying4
  a4 := Tryz.isAgg4
  z4 := Tryz.sizeOf4
  v4 := Tryz.zeroValue4
  t9 := Tryz.underlying9
  a9 := Tryz.isAgg9
  z9 := Tryz.sizeOf9
  v9 := Tryz.zeroValue9
  t37 := Tryz.underlying36
  a37 := Tryz.isAgg36
  z37 := Tryz.sizeOf36
  v37 := Tryz.zeroValue36
  t127 := Tryz.underlying73
  a127 := Tryz.isAgg73
  z127 := Tryz.sizeOf73
  v127 := Tryz.zeroValue73
  t5 := Tryz.underlying5
  a5 := Tryz.isAgg5
  z5 := Tryz.sizeOf5
  v5 := Tryz.zeroValue5
  i0 := by kernel_rfl
  i3 := by kernel_rfl
  i4 := by kernel_rfl
  i5 := by kernel_rfl
  i9 := by kernel_rfl
  i37 := by kernel_rfl
  i127 := by kernel_rfl }
open Go.RowKit in
theorem Tryz.stringslite_Clone (s : ByteArray) (w : World) (hlim : s.size ≤ 281474976710656) :
    Calls Tryz.prog 62 #[.string s] w fun e w' => e = .returned (.string s) ∧ Below w.heap.size w w' := Any.stringslite_Clone Tryz.laysM316 s w hlim
def Tryz.lays151_ren : Go.Shelf.Ren := ⟨fun | 151 => 66 | 152 => 71 | 137 => 83 | 119 => 84 | 224 => 85 | 225 => 86 | 217 => 96 | 266 => 102 | n => n, fun | 9 => 9 | 21 => 21 | 4 => 4 | 3 => 3 | 5 => 5 | 0 => 0 | 46 => 98 | n => n, fun | n => n⟩
theorem Tryz.lays151 : Go.Proofs.Lays.n151 Tryz.prog Tryz.lays151_ren := {
  mixed := by kernel_rfl
  f119 := Tryz.func84.trans (congrArg some (by kernel_rfl))
  f137 := Tryz.func83.trans (congrArg some (by kernel_rfl))
  f151 := Tryz.func66.trans (congrArg some (by kernel_rfl))
  f152 := Tryz.func71.trans (congrArg some (by kernel_rfl))
  f217 := Tryz.func96.trans (congrArg some (by kernel_rfl))
  f224 := Tryz.func85.trans (congrArg some (by kernel_rfl))
  f225 := Tryz.func86.trans (congrArg some (by kernel_rfl))
  f266 := Tryz.func102.trans (congrArg some (by kernel_rfl))
  t0 := Tryz.underlying0
  a0 := Tryz.isAgg0
  z0 := Tryz.sizeOf0
  v0 := Tryz.zeroValue0
  t3 := Tryz.underlying3
  a3 := Tryz.isAgg3
  z3 := Tryz.sizeOf3
  v3 := Tryz.zeroValue3
  t4 := Tryz.underlying4
  a4 := Tryz.isAgg4
  z4 := Tryz.sizeOf4
  v4 := Tryz.zeroValue4
  t5 := Tryz.underlying5
  a5 := Tryz.isAgg5
  z5 := Tryz.sizeOf5
  v5 := Tryz.zeroValue5
  t9 := Tryz.underlying9
  a9 := Tryz.isAgg9
  z9 := Tryz.sizeOf9
  v9 := Tryz.zeroValue9
  t21 := Tryz.underlying21
  a21 := Tryz.isAgg21
  z21 := Tryz.sizeOf21
  v21 := Tryz.zeroValue21
  t46 := Tryz.underlying98
  a46 := Tryz.isAgg98
  z46 := Tryz.sizeOf98
  v46 := Tryz.zeroValue98 }
open Go.RowKit Go.Lib in
theorem Tryz.strings_ContainsRune_ascii (s : ByteArray) (r : Int) (w : World) (h0 : 0 ≤ r) (h1 : r < 128) :
    Calls Tryz.prog 66 #[.string s, .int .i32 r] w fun e w' => e = .returned (.bool (decide (0 ≤ Lib.indexByte s.data.toList r.toNat.toUInt8))) ∧ w' = w := Any.strings_ContainsRune_ascii Tryz.lays151 s r w h0 h1
def Tryz.lays150_ren : Go.Shelf.Ren := ⟨fun | 150 => 52 | 153 => 63 | 152 => 71 | 226 => 72 | 227 => 73 | 228 => 74 | 137 => 83 | 119 => 84 | 224 => 85 | 225 => 86 | 217 => 96 | 266 => 102 | n => n, fun | 9 => 9 | 4 => 4 | 3 => 3 | 5 => 5 | 21 => 21 | 117 => 103 | 116 => 102 | 0 => 0 | 46 => 98 | 124 => 113 | n => n, fun | n => n⟩
theorem Tryz.lays150 : Go.Proofs.Lays.n150 Tryz.prog Tryz.lays150_ren := {
  mixed := by kernel_rfl
  f119 := Tryz.func84.trans (congrArg some (by kernel_rfl))
  f137 := Tryz.func83.trans (congrArg some (by kernel_rfl))
  f150 := Tryz.func52.trans (congrArg some (by kernel_rfl))
  f152 := Tryz.func71.trans (congrArg some (by kernel_rfl))
  f153 := Tryz.func63.trans (congrArg some (by kernel_rfl))
  f217 := Tryz.func96.trans (congrArg some (by kernel_rfl))
  f224 := Tryz.func85.trans (congrArg some (by kernel_rfl))
  f225 := Tryz.func86.trans (congrArg some (by kernel_rfl))
  f226 := Tryz.func72.trans (congrArg some (by kernel_rfl))
  f227 := Tryz.func73.trans (congrArg some (by kernel_rfl))
  f228 := Tryz.func74.trans (congrArg some (by kernel_rfl))
  f266 := Tryz.func102.trans (congrArg some (by kernel_rfl))
  t0 := Tryz.underlying0
  a0 := Tryz.isAgg0
  z0 := Tryz.sizeOf0
  v0 := Tryz.zeroValue0
  t3 := Tryz.underlying3
  a3 := Tryz.isAgg3
  z3 := Tryz.sizeOf3
  v3 := Tryz.zeroValue3
  t4 := Tryz.underlying4
  a4 := Tryz.isAgg4
  z4 := Tryz.sizeOf4
  v4 := Tryz.zeroValue4
  t5 := Tryz.underlying5
  a5 := Tryz.isAgg5
  z5 := Tryz.sizeOf5
  v5 := Tryz.zeroValue5
  t9 := Tryz.underlying9
  a9 := Tryz.isAgg9
  z9 := Tryz.sizeOf9
  v9 := Tryz.zeroValue9
  t21 := Tryz.underlying21
  a21 := Tryz.isAgg21
  z21 := Tryz.sizeOf21
  v21 := Tryz.zeroValue21
  t46 := Tryz.underlying98
  a46 := Tryz.isAgg98
  z46 := Tryz.sizeOf98
  v46 := Tryz.zeroValue98
  t116 := Tryz.underlying102
  a116 := Tryz.isAgg102
  z116 := Tryz.sizeOf102
  t117 := Tryz.underlying103
  a117 := Tryz.isAgg103
  z117 := Tryz.sizeOf103
  v117 := Tryz.zeroValue103
  t124 := Tryz.underlying113
  a124 := Tryz.isAgg113
  z124 := Tryz.sizeOf113
  v124 := Tryz.zeroValue113 }
open Go.RowKit Go.Lib in
theorem Tryz.strings_ContainsAny_laid (s chars : ByteArray) (w : World) (hs : s.size < 4294967281) (hcs : chars.size < 4294967281) (has : ∀ (j : Nat) b, s.data.toList[j]? = some b → b.toNat < 128) (hac : ∀ (j : Nat) b, chars.data.toList[j]? = some b → b.toNat < 128) :
    Calls Tryz.prog 52 #[.string s, .string chars] w fun e w' => e = .returned (.bool (Lib.containsAny s.data.toList chars.data.toList)) ∧ Below w.heap.size w w' := Any.strings_ContainsAny_laid Tryz.lays150 (by kernel_rfl) s chars w hs hcs has hac
end Go.Proofs
