/-
  Contracts of strings.Clone, strings.ContainsRune and strings.ContainsAny at this program, laid off the library by its own tool. Conditions: as each says.
-/
import Derived.Shelf.LaysM
import Derived.Shelf.Strconv.Clone
import Derived.Shelf.Strings.Runes
import Derived.Shelf.Strings.IndexAnyAll
import Derived.Test.YtkpdbbbeagnjpaaGreatDoorProg
import Derived.Test.YtkpdbbbeagnjpaaGreatDoorQ07
namespace Go.Proofs
open Go.Shelf
def Tryz.laysM316_ren : Go.Shelf.Ren := ⟨fun | 316 => 62 | n => n, fun | 9 => 9 | 3 => 3 | 4 => 4 | 37 => 36 | 0 => 0 | 127 => 73 | 5 => 5 | n => n, fun | n => n⟩
theorem Tryz.laysM316 : Go.Proofs.LaysM.n316 Tryz.prog Tryz.laysM316_ren := {
  mixed := by kernel_rfl
  f316 := Tryz.func62.trans (congrArg some (by kernel_rfl))
  t0 := Tryz.underlying0
  a0 := Tryz.isAgg0
  z0 := Tryz.sizeOf0
  v0 := Tryz.zeroValue0
  t3 := Tryz.underlying3
  a3 := Tryz.isAgg3
  z3 := Tryz.sizeOf3
  v3 := Tryz.zeroValue3
  t4 := Tryz.underlying4
  a4 := Tryz.isAgg4
  z4 := Tryz.sizeOf4
  v4 := Tryz.zeroValue4
  t9 := Tryz.underlying9
  a9 := Tryz.isAgg9
  z9 := Tryz.sizeOf9
  v9 := Tryz.zeroValue9
  t37 := Tryz.underlying36
  a37 := Tryz.isAgg36
  z37 := Tryz.sizeOf36
  v37 := Tryz.zeroValue36
  t127 := Tryz.underlying73
  a127 := Tryz.isAgg73
  z127 := Tryz.sizeOf73
  v127 := Tryz.zeroValue73
  t5 := Tryz.underlying5
  a5 := Tryz.isAgg5
  z5 := Tryz.sizeOf5
  v5 := Tryz.zeroValue5
  i0 := by kernel_rfl
  i3 := by kernel_rfl
  i4 := by kernel_rfl
  i5 := by kernel_rfl
  i9 := by kernel_rfl
  i37 := by kernel_rfl
  i127 := by kernel_rfl }
open Go.RowKit in
theorem Tryz.stringslite_Clone (s : ByteArray) (w : World) (hlim : s.size ≤ 281474976710656) :
    Calls Tryz.prog 62 #[.string s] w fun e w' => e = .returned (.string s) ∧ Below w.heap.size w w' := Any.stringslite_Clone Tryz.laysM316 s w hlim
def Tryz.lays151_ren : Go.Shelf.Ren := ⟨fun | 151 => 66 | 152 => 71 | 137 => 83 | 119 => 84 | 224 => 85 | 225 => 86 | 217 => 96 | 266 => 102 | n => n, fun | 9 => 9 | 21 => 21 | 4 => 4 | 3 => 3 | 5 => 5 | 0 => 0 | 46 => 98 | n => n, fun | n => n⟩
theorem Tryz.lays151 : Go.Proofs.Lays.n151 Tryz.prog Tryz.lays151_ren := {
  mixed := by kernel_rfl
  f119 := Tryz.func84.trans (congrArg some (by kernel_rfl))
  f137 := Tryz.func83.trans (congrArg some (by kernel_rfl))
  f151 := Tryz.func66.trans (congrArg some (by kernel_rfl))
  f152 := Tryz.func71.trans (congrArg some (by kernel_rfl))
  f217 := Tryz.func96.trans (congrArg some (by kernel_rfl))
  f224 := Tryz.func85.trans (congrArg some (by kernel_rfl))
  f225 := Tryz.func86.trans (congrArg some (by kernel_rfl))
  f266 := Tryz.func102.trans (congrArg some (by kernel_rfl))
  t0 := Tryz.underlying0
  a0 := Tryz.isAgg0
  z0 := Tryz.sizeOf0
  v0 := Tryz.zeroValue0
  t3 := Tryz.underlying3
  a3 := Tryz.isAgg3
  z3 := Tryz.sizeOf3
  v3 := Tryz.zeroValue3
  t4 := Tryz.underlying4
  a4 := Tryz.isAgg4
  z4 := Tryz.sizeOf4
  v4 := Tryz.zeroValue4
  t5 := Tryz.underlying5
  a5 := Tryz.isAgg5
  z5 := Tryz.sizeOf5
  v5 := Tryz.zeroValue5
  t9 := Tryz.underlying9
  a9 := Tryz.isAgg9
  z9 := Tryz.sizeOf9
  v9 := Tryz.zeroValue9
  t21 := Tryz.underlying21
  a21 := Tryz.isAgg21
  z21 := Tryz.sizeOf21
  v21 := Tryz.zeroValue21
  t46 := Tryz.underlying98
  a46 := Tryz.isAgg98
  z46 := Tryz.sizeOf98
  v46 := Tryz.zeroValue98 }
open Go.RowKit Go.Lib in
theorem Tryz.strings_ContainsRune_ascii (s : ByteArray) (r : Int) (w : World) (h0 : 0 ≤ r) (h1 : r < 128) :
    Calls Tryz.prog 66 #[.string s, .int .i32 r] w fun e w' => e = .returned (.bool (decide (0 ≤ Lib.indexByte s.data.toList r.toNat.toUInt8))) ∧ w' = w := Any.strings_ContainsRune_ascii Tryz.lays151 s r w h0 h1
def Tryz.lays150_ren : Go.Shelf.Ren := ⟨fun | 150 => 52 | 153 => 63 | 152 => 71 | 226 => 72 | 227 => 73 | 228 => 74 | 137 => 83 | 119 => 84 | 224 => 85 | 225 => 86 | 217 => 96 | 266 => 102 | n => n, fun | 9 => 9 | 4 => 4 | 3 => 3 | 5 => 5 | 21 => 21 | 117 => 103 | 116 => 102 | 0 => 0 | 46 => 98 | 124 => 113 | n => n, fun | n => n⟩
theorem Tryz.lays150 : Go.Proofs.Lays.n150 Tryz.prog Tryz.lays150_ren := {
  mixed := by kernel_rfl
  f119 := Tryz.func84.trans (congrArg some (by kernel_rfl))
  f137 := Tryz.func83.trans (congrArg some (by kernel_rfl))
  f150 := Tryz.func52.trans (congrArg some (by kernel_rfl))
  f152 := Tryz.func71.trans (congrArg some (by kernel_rfl))
  f153 := Tryz.func63.trans (congrArg some (by kernel_rfl))
  f217 := Tryz.func96.trans (congrArg some (by kernel_rfl))
  f224 := Tryz.func85.trans (congrArg some (by kernel_rfl))
  f225 := Tryz.func86.trans (congrArg some (by kernel_rfl))
  f226 := Tryz.func72.trans (congrArg some (by kernel_rfl))
  f227 := Tryz.func73.trans (congrArg some (by kernel_rfl))
  f228 := Tryz.func74.trans (congrArg some (by kernel_rfl))
  f266 := Tryz.func102.trans (congrArg some (by kernel_rfl))
  t0 := Tryz.underlying0
  a0 := Tryz.isAgg0
  z0 := Tryz.sizeOf0
  v0 := Tryz.zeroValue0
  t3 := Tryz.underlying3
  a3 := Tryz.isAgg3
  z3 := Tryz.sizeOf3
  v3 := Tryz.zeroValue3
  t4 := Tryz.underlying4
  a4 := Tryz.isAgg4
  z4 := Tryz.sizeOf4
  v4 := Tryz.zeroValue4
  t5 := Tryz.underlying5
  a5 := Tryz.isAgg5
  z5 := Tryz.sizeOf5
  v5 := Tryz.zeroValue5
  t9 := Tryz.underlying9
  a9 := Tryz.isAgg9
  z9 := Tryz.sizeOf9
  v9 := Tryz.zeroValue9
  t21 := Tryz.underlying21
  a21 := Tryz.isAgg21
  z21 := Tryz.sizeOf21
  v21 := Tryz.zeroValue21
  t46 := Tryz.underlying98
  a46 := Tryz.isAgg98
  z46 := Tryz.sizeOf98
  v46 := Tryz.zeroValue98
  t116 := Tryz.underlying102
  a116 := Tryz.isAgg102
  z116 := Tryz.sizeOf102
  t117 := Tryz.underlying103
  a117 := Tryz.isAgg103
  z117 := Tryz.sizeOf103
  v117 := Tryz.zeroValue103
  t124 := Tryz.underlying113
  a124 := Tryz.isAgg113
  z124 := Tryz.sizeOf113
  v124 := Tryz.zeroValue113 }
open Go.RowKit Go.Lib in
theorem Tryz.strings_ContainsAny_laid (s chars : ByteArray) (w : World) (hs : s.size < 4294967281) (hcs : chars.size < 4294967281) (has : ∀ (j : Nat) b, s.data.toList[j]? = some b → b.toNat < 128) (hac : ∀ (j : Nat) b, chars.data.toList[j]? = some b → b.toNat < 128) :
    Calls Tryz.prog 52 #[.string s, .string chars] w fun e w' => e = .returned (.bool (Lib.containsAny s.data.toList chars.data.toList)) ∧ Below w.heap.size w w' := Any.strings_ContainsAny_laid Tryz.lays150 (by kernel_rfl) s chars w hs hcs has hac
end Go.Proofs
/-
  isSign (of a rune below 128), begin by their contracts. Conditions: a rune below 128; at most 2^32 tokens.
-/
namespace Go.Proofs.YtkpdbbbeagnjpaaGreatDoor
open Go.RowKit Go.Lib

def signsL : By := [123, 125, 40, 41, 44, 59, 61, 126, 45]
/-- Is it a sign? -/
def sgB (r : Int) : Bool := decide (r = 123) || decide (r = 125) || decide (r = 40) || decide (r = 41) || decide (r = 44) || decide (r = 59) || decide (r = 61) || decide (r = 126) || decide (r = 45)
set_option maxRecDepth 100000 in
theorem sg_idx : ∀ c : Fin 128, decide (0 ≤ Lib.indexByte signsL (((c.val : Nat) : Int).toNat.toUInt8)) = sgB (c.val : Int) := by decide +kernel
theorem isSign_any (r : Int) (h0 : 0 ≤ r) (h1 : r < 128) (w : World) : Calls Tryz.prog 56 #[.int .i32 r] w fun e w' => e = .returned (.bool (sgB r)) ∧ w' = w := by
  have HC := hide (Tryz.strings_ContainsRune_ascii ⟨#[123, 125, 40, 41, 44, 59, 61, 126, 45]⟩ r w h0 h1)
  have e : decide (0 ≤ Lib.indexByte signsL r.toNat.toUInt8) = sgB r := by
    have := sg_idx ⟨r.toNat, by omega⟩
    rw [show ((r.toNat : Nat) : Int) = r by omega] at this
    exact this
  have HC2 : Hid (Calls Tryz.prog 66 #[.string ⟨#[123, 125, 40, 41, 44, 59, 61, 126, 45]⟩, .int .i32 r] w fun e w' => e = .returned (.bool (sgB r)) ∧ w' = w) := by rw [← e]; exact HC
  clear HC e
  go_enter Tryz.func56, Tryz.ntmps56
  go_wp2_with (go_at_call 66; refine HC2.out.mono ?_; rintro e wz ⟨rfl, hwz⟩; have hwz := hwz.symm; subst hwz)
  go_ret
  exact ⟨rfl, rfl⟩
/-- What begins with a rune at a place. -/
def beginP (x : SS) (q r : Int) : Int × SS :=
  if blB r = true then (0, { x with fr := q, st := 0 })
  else if r = 35 then (0, { x with fr := q, st := 1 })
  else if smB r = true then (0, { x with fr := q, st := 2 })
  else if grB r = true then (0, { x with fr := q, st := 3 })
  else if dgB r = true then (0, { x with fr := q, st := 4 })
  else if r = 34 then (0, { x with fr := q, st := 5 })
  else if sgB r = true then (0, { x with fr := q, st := 0, tk := x.tk ++ [⟨7, [rB r], 0, 0, 0, q⟩] })
  else (80, { x with fr := q, st := 0 })
section
variable {w : World} {base p : Nat} {s : By} {x : SS}
set_option maxHeartbeats 4000000 in
set_option maxRecDepth 100000 in
theorem begin_any (h : ScA w base p s x) (q r : Int) (h0 : 0 ≤ r) (h1 : r < 128) (hb : base ≤ w.heap.size) (hl : x.tk.length ≤ 4294967296) :
    Calls Tryz.prog 36 #[.pointer (some ⟨p, 0, none⟩), .int .i64 q, .int .i32 r] w fun e w' => ScE w base p s (beginP x q r) e w' := by
  obtain ⟨tv, ad, bv, h⟩ := h
  obtain ⟨c0, c2, c3, f2, f3⟩ := h.cells
  obtain ⟨s1, k1⟩ := h.setFr q
  obtain ⟨s2, k2⟩ := s1.setSt 0
  have K2 := hide (k1.trans k2)
  have S2 := hide s2
  have H1 := hide (fun W => isBlank_any r W)
  have H2 := hide (fun W => isSmall_any r W)
  have H3 := hide (fun W => isGreat_any r W)
  have H4 := hide (fun W => isDigit_any r W)
  have H5 := hide (fun W => isSign_any r h0 h1 W)
  clear h s1 s2 k1 k2
  go_enter Tryz.func36, Tryz.ntmps36
  go_upto_region 4 with fail
  obtain ⟨w2, hw2⟩ : ∃ w2, w2 = (w.setCell ⟨p, 3, none⟩ (.int .i64 q)).setCell ⟨p, 2, none⟩ (.int .i64 0) := ⟨_, rfl⟩
  rw [← hw2] at S2 K2 ⊢
  clear hw2 c0 c2 c3 f2 f3
  obtain ⟨d0, d2, d3, e2, e3⟩ := S2.out.cells
  have HS := hide K2.out.size
  by_cases hbl : blB r = true
  · rw [hbl] at H1
    have HM : Hid (beginP x q r = (0, { x with fr := q, st := 0 })) := by unfold Hid beginP; rw [if_pos hbl]
    clear hbl
    go_wp2_with (first | (go_at_call 55; refine (H1.out _).mono ?_; rintro e wz ⟨rfl, hwz⟩; have hwz := hwz.symm; subst hwz) | (go_at_call 28; refine (H2.out _).mono ?_; rintro e wz ⟨rfl, hwz⟩; have hwz := hwz.symm; subst hwz) | (go_at_call 45; refine (H3.out _).mono ?_; rintro e wz ⟨rfl, hwz⟩; have hwz := hwz.symm; subst hwz) | (go_at_call 44; refine (H4.out _).mono ?_; rintro e wz ⟨rfl, hwz⟩; have hwz := hwz.symm; subst hwz) | (go_at_call 56; refine (H5.out _).mono ?_; rintro e wz ⟨rfl, hwz⟩; have hwz := hwz.symm; subst hwz))
    go_ret
    rw [HM.out]
    exact ⟨rfl, ⟨_, _, _, S2.out⟩, K2.out, HS.out⟩
  · have hbl' : blB r = false := by simpa using hbl
    rw [hbl'] at H1
    by_cases h35 : r = 35
    · have HM : Hid (beginP x q r = (0, { x with fr := q, st := 1 })) := by unfold Hid beginP; rw [if_neg hbl, if_pos h35]
      subst h35
      clear hbl hbl'
      go_wp2_with (first | (go_at_call 55; refine (H1.out _).mono ?_; rintro e wz ⟨rfl, hwz⟩; have hwz := hwz.symm; subst hwz) | (go_at_call 28; refine (H2.out _).mono ?_; rintro e wz ⟨rfl, hwz⟩; have hwz := hwz.symm; subst hwz) | (go_at_call 45; refine (H3.out _).mono ?_; rintro e wz ⟨rfl, hwz⟩; have hwz := hwz.symm; subst hwz) | (go_at_call 44; refine (H4.out _).mono ?_; rintro e wz ⟨rfl, hwz⟩; have hwz := hwz.symm; subst hwz) | (go_at_call 56; refine (H5.out _).mono ?_; rintro e wz ⟨rfl, hwz⟩; have hwz := hwz.symm; subst hwz))
      go_ret
      rw [HM.out]
      obtain ⟨s4, k4⟩ := S2.out.setSt 1
      exact ⟨rfl, ⟨_, _, _, s4⟩, K2.out.trans k4, Nat.le_trans HS.out k4.size⟩
    · have e35 : (r == 35) = false := by simp [h35]
      by_cases hsm : smB r = true
      · rw [hsm] at H2
        have HM : Hid (beginP x q r = (0, { x with fr := q, st := 2 })) := by unfold Hid beginP; rw [if_neg hbl, if_neg h35, if_pos hsm]
        clear hbl hbl' hsm
        go_wp2_with (first | (go_at_call 55; refine (H1.out _).mono ?_; rintro e wz ⟨rfl, hwz⟩; have hwz := hwz.symm; subst hwz) | (go_at_call 28; refine (H2.out _).mono ?_; rintro e wz ⟨rfl, hwz⟩; have hwz := hwz.symm; subst hwz) | (go_at_call 45; refine (H3.out _).mono ?_; rintro e wz ⟨rfl, hwz⟩; have hwz := hwz.symm; subst hwz) | (go_at_call 44; refine (H4.out _).mono ?_; rintro e wz ⟨rfl, hwz⟩; have hwz := hwz.symm; subst hwz) | (go_at_call 56; refine (H5.out _).mono ?_; rintro e wz ⟨rfl, hwz⟩; have hwz := hwz.symm; subst hwz))
        go_ret
        rw [HM.out]
        obtain ⟨s4, k4⟩ := S2.out.setSt 2
        exact ⟨rfl, ⟨_, _, _, s4⟩, K2.out.trans k4, Nat.le_trans HS.out k4.size⟩
      · have hsm' : smB r = false := by simpa using hsm
        rw [hsm'] at H2
        by_cases hgr : grB r = true
        · rw [hgr] at H3
          have HM : Hid (beginP x q r = (0, { x with fr := q, st := 3 })) := by unfold Hid beginP; rw [if_neg hbl, if_neg h35, if_neg hsm, if_pos hgr]
          clear hbl hbl' hsm hsm' hgr
          go_wp2_with (first | (go_at_call 55; refine (H1.out _).mono ?_; rintro e wz ⟨rfl, hwz⟩; have hwz := hwz.symm; subst hwz) | (go_at_call 28; refine (H2.out _).mono ?_; rintro e wz ⟨rfl, hwz⟩; have hwz := hwz.symm; subst hwz) | (go_at_call 45; refine (H3.out _).mono ?_; rintro e wz ⟨rfl, hwz⟩; have hwz := hwz.symm; subst hwz) | (go_at_call 44; refine (H4.out _).mono ?_; rintro e wz ⟨rfl, hwz⟩; have hwz := hwz.symm; subst hwz) | (go_at_call 56; refine (H5.out _).mono ?_; rintro e wz ⟨rfl, hwz⟩; have hwz := hwz.symm; subst hwz))
          go_ret
          rw [HM.out]
          obtain ⟨s4, k4⟩ := S2.out.setSt 3
          exact ⟨rfl, ⟨_, _, _, s4⟩, K2.out.trans k4, Nat.le_trans HS.out k4.size⟩
        · have hgr' : grB r = false := by simpa using hgr
          rw [hgr'] at H3
          by_cases hdg : dgB r = true
          · rw [hdg] at H4
            have HM : Hid (beginP x q r = (0, { x with fr := q, st := 4 })) := by unfold Hid beginP; rw [if_neg hbl, if_neg h35, if_neg hsm, if_neg hgr, if_pos hdg]
            clear hbl hbl' hsm hsm' hgr hgr' hdg
            go_wp2_with (first | (go_at_call 55; refine (H1.out _).mono ?_; rintro e wz ⟨rfl, hwz⟩; have hwz := hwz.symm; subst hwz) | (go_at_call 28; refine (H2.out _).mono ?_; rintro e wz ⟨rfl, hwz⟩; have hwz := hwz.symm; subst hwz) | (go_at_call 45; refine (H3.out _).mono ?_; rintro e wz ⟨rfl, hwz⟩; have hwz := hwz.symm; subst hwz) | (go_at_call 44; refine (H4.out _).mono ?_; rintro e wz ⟨rfl, hwz⟩; have hwz := hwz.symm; subst hwz) | (go_at_call 56; refine (H5.out _).mono ?_; rintro e wz ⟨rfl, hwz⟩; have hwz := hwz.symm; subst hwz))
            go_ret
            rw [HM.out]
            obtain ⟨s4, k4⟩ := S2.out.setSt 4
            exact ⟨rfl, ⟨_, _, _, s4⟩, K2.out.trans k4, Nat.le_trans HS.out k4.size⟩
          · have hdg' : dgB r = false := by simpa using hdg
            rw [hdg'] at H4
            by_cases h34 : r = 34
            · have HM : Hid (beginP x q r = (0, { x with fr := q, st := 5 })) := by unfold Hid beginP; rw [if_neg hbl, if_neg h35, if_neg hsm, if_neg hgr, if_neg hdg, if_pos h34]
              subst h34
              clear hbl hbl' hsm hsm' hgr hgr' hdg hdg'
              go_wp2_with (first | (go_at_call 55; refine (H1.out _).mono ?_; rintro e wz ⟨rfl, hwz⟩; have hwz := hwz.symm; subst hwz) | (go_at_call 28; refine (H2.out _).mono ?_; rintro e wz ⟨rfl, hwz⟩; have hwz := hwz.symm; subst hwz) | (go_at_call 45; refine (H3.out _).mono ?_; rintro e wz ⟨rfl, hwz⟩; have hwz := hwz.symm; subst hwz) | (go_at_call 44; refine (H4.out _).mono ?_; rintro e wz ⟨rfl, hwz⟩; have hwz := hwz.symm; subst hwz) | (go_at_call 56; refine (H5.out _).mono ?_; rintro e wz ⟨rfl, hwz⟩; have hwz := hwz.symm; subst hwz))
              go_ret
              rw [HM.out]
              obtain ⟨s4, k4⟩ := S2.out.setSt 5
              exact ⟨rfl, ⟨_, _, _, s4⟩, K2.out.trans k4, Nat.le_trans HS.out k4.size⟩
            · have e34 : (r == 34) = false := by simp [h34]
              by_cases hsg : sgB r = true
              · rw [hsg] at H5
                have HM : Hid (beginP x q r = (0, { x with fr := q, st := 0, tk := x.tk ++ [⟨7, [rB r], 0, 0, 0, q⟩] })) := by unfold Hid beginP; rw [if_neg hbl, if_neg h35, if_neg hsm, if_neg hgr, if_neg hdg, if_neg h34, if_pos hsg]
                have HA := hide (S2.out.add ⟨7, [rB r], 0, 0, 0, 0⟩ hl (by have := HS.out; omega))
                unfold tkV at HA
                have hcs : r = 123 ∨ r = 125 ∨ r = 40 ∨ r = 41 ∨ r = 44 ∨ r = 59 ∨ r = 61 ∨ r = 126 ∨ r = 45 := by simpa [sgB, or_assoc] using hsg
                clear hbl hbl' hsm hsm' hgr hgr' hdg hdg' hsg
                rcases hcs with rfl | rfl | rfl | rfl | rfl | rfl | rfl | rfl | rfl
                all_goals
                  go_wp2_with (first | (go_at_call 55; refine (H1.out _).mono ?_; rintro e wz ⟨rfl, hwz⟩; have hwz := hwz.symm; subst hwz) | (go_at_call 28; refine (H2.out _).mono ?_; rintro e wz ⟨rfl, hwz⟩; have hwz := hwz.symm; subst hwz) | (go_at_call 45; refine (H3.out _).mono ?_; rintro e wz ⟨rfl, hwz⟩; have hwz := hwz.symm; subst hwz) | (go_at_call 44; refine (H4.out _).mono ?_; rintro e wz ⟨rfl, hwz⟩; have hwz := hwz.symm; subst hwz) | (go_at_call 56; refine (H5.out _).mono ?_; rintro e wz ⟨rfl, hwz⟩; have hwz := hwz.symm; subst hwz) | (go_at_call 37; refine HA.out.mono ?_; rintro e w3 ⟨rfl, hA, hK, hS⟩; have HA2 := hide hA; have HK := hide hK; have HS3 := hide hS; clear hA hK hS))
                  go_ret
                  rw [HM.out]
                  exact ⟨rfl, HA2.out, K2.out.trans HK.out, Nat.le_trans HS.out HS3.out⟩
              · have hsg' : sgB r = false := by simpa using hsg
                rw [hsg'] at H5
                have HM : Hid (beginP x q r = (80, { x with fr := q, st := 0 })) := by unfold Hid beginP; rw [if_neg hbl, if_neg h35, if_neg hsm, if_neg hgr, if_neg hdg, if_neg h34, if_neg hsg]
                clear hbl hbl' hsm hsm' hgr hgr' hdg hdg' hsg hsg'
                go_wp2_with (first | (go_at_call 55; refine (H1.out _).mono ?_; rintro e wz ⟨rfl, hwz⟩; have hwz := hwz.symm; subst hwz) | (go_at_call 28; refine (H2.out _).mono ?_; rintro e wz ⟨rfl, hwz⟩; have hwz := hwz.symm; subst hwz) | (go_at_call 45; refine (H3.out _).mono ?_; rintro e wz ⟨rfl, hwz⟩; have hwz := hwz.symm; subst hwz) | (go_at_call 44; refine (H4.out _).mono ?_; rintro e wz ⟨rfl, hwz⟩; have hwz := hwz.symm; subst hwz) | (go_at_call 56; refine (H5.out _).mono ?_; rintro e wz ⟨rfl, hwz⟩; have hwz := hwz.symm; subst hwz))
                go_ret
                rw [HM.out]
                exact ⟨rfl, ⟨_, _, _, S2.out⟩, K2.out, HS.out⟩
end
end Go.Proofs.YtkpdbbbeagnjpaaGreatDoor
