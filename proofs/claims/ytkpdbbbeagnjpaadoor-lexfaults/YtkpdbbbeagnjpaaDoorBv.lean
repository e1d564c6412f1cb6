/-
  strings.Builder's WriteRune (of a rune below 128), Len, Reset, String, at an address that lies in whatever block. Conditions: as in the text before.
-/
import Derived.Test.YtkpdbbbeagnjpaaDoorBu
import Derived.Shelf.Strings.BuilderF
namespace Go.Proofs.YtkpdbbbeagnjpaaDoor
open Go.RowKit Go.Lib

section
variable {w w' : World} {base b o : Nat} {e : TypeId} {cs : Array Value} {l : List UInt8}
set_option maxHeartbeats 2000000 in
set_option maxRecDepth 100000 in
theorem appendAscii_any (c : UInt8) (hc : c.toNat < 128) (v : Value) (w : World) (hr : w.ownsRow base 5 1 v l.length (Lib.byteCells l)) (hb : base ≤ w.heap.size) (hl : l.length ≤ 140737488351232) :
    Calls Tryd.prog 25 #[v, .int .i32 (c.toNat : Int)] w fun x w' => ∃ v' w5, x = .returned v' ∧ Below w.heap.size w w5 ∧ w'.ownsRow base 5 1 v' (l.length + 1) (Lib.byteCells (l ++ [c])) ∧ AppAt w5 w' v v' := by
  obtain ⟨i5, hi5, hz50, hz51, hz52⟩ := info_parts Tryd.info5n
  have P1 := hide (own_below hr (al (Below.refl _ _) (.cells #[.int .u8 (c.toNat : Int)] 5)))
  have P2 := hide (byte_new w c)
  have X5 := hide (al (Below.refl w.heap.size w) (.cells #[.int .u8 (c.toNat : Int)] 5))
  have P3 : Hid (base ≤ (w.alloc (.cells #[.int .u8 (c.toNat : Int)] 5)).heap.size) := by
    have := X5.out.size
    unfold Hid; omega
  have e1 : Hid (Lib.byteCells l ++ [.int .u8 (c.toNat : Int)] = Lib.byteCells (l ++ [c])) := by simp [Lib.byteCells, Hid]
  obtain ⟨ao, cp, he, _⟩ := own_shape hr
  subst he
  have h1 : IntKind.u32.wrap (c.toNat : Int) = (c.toNat : Int) := by simp [IntKind.wrap, IntKind.bits, IntKind.signed]; omega
  have h2 : IntKind.u8.wrap (c.toNat : Int) = (c.toNat : Int) := by simp [IntKind.wrap, IntKind.bits, IntKind.signed]; omega
  have h3 : (c.toNat : Int) ≤ 127 := by omega
  clear hr
  generalize hz : (c.toNat : Int) = z at *
  clear hz
  go_enter Tryd.func25, Tryd.ntmps25
  go_wp2_with (at_builtin; refine wpList_append_view rfl (.tmp 8) (.tmp 11) 38 rfl base 5 i5 (.int .u8 0) 1 1 Tryd.underlying38 hi5 hz50 hz51 hz52 rfl (by decide) _ l.length _ rfl P1.out ⟨w.heap.size, 0, none⟩ 1 1 [(.int .u8 z)] rfl rfl P2.out (by simp [Value.oneCell']) (by decide) (by unfold maxLen; omega) (by omega) P3.out ?_; intro v6 w6 q1 q2; have Q1 := hide q1; have Q2 := hide q2; clear q1 q2)
  go_ret
  exact ⟨v6, _, rfl, X5.out, by rw [← e1.out]; exact Q1.out, Q2.out⟩
set_option maxHeartbeats 2000000 in
set_option maxRecDepth 100000 in
/-- WriteRune. -/
theorem BuB.rune (h : BuB w base b o e cs l) (c : UInt8) (hc : c.toNat < 128) (hb : base ≤ w.heap.size) (hl : l.length ≤ 140737488351232) :
    Calls Tryd.prog 15 #[.pointer (some ⟨b, o, none⟩), .int .i32 (c.toNat : Int)] w fun x w' => x = .returned (.tuple #[.int .i64 1, .nilIface]) ∧ (∃ v', BuB w' base b o e ((cs.set! o (.pointer (some ⟨b, o, none⟩))).set! (o + 1) v') (l ++ [c])) ∧ KpO 5 base b w w' := by
  have HC := hide (h.copy hb)
  clear h
  go_enter Tryd.func15, Tryd.ntmps15
  go_upto_region 2 with (go_at_call 24; refine HC.out.mono ?_; rintro x w1 ⟨rfl, h1, k1, hs1⟩; have HB := hide h1; have HK := hide k1; have HS := hide hs1; clear h1 k1 hs1)
  clear HC
  obtain ⟨v, hv, hr⟩ := HB.out.row
  obtain ⟨d0, d1, d2, d3⟩ := HB.out.cells
  rw [hv] at d1
  have HV := hide hv
  have HR := hide hr
  obtain ⟨ao, cp, he, _⟩ := own_shape hr
  subst he
  have HA := hide (appendAscii_any c hc _ w1 hr (by have := HS.out; omega) hl)
  have HPU : Hid (∀ v' w5 w6, Below w1.heap.size w1 w5 → w6.ownsRow base 5 1 v' (l.length + 1) (Lib.byteCells (l ++ [c])) → AppAt w5 w6 (.slice ao l.length cp) v' → BuB (w6.setCell ⟨b, o + 1, none⟩ v') base b o e ((cs.set! o (.pointer (some ⟨b, o, none⟩))).set! (o + 1) v') (l ++ [c]) ∧ KpO 5 base b w1 (w6.setCell ⟨b, o + 1, none⟩ v') ∧ w6.frozen? ⟨b, o + 1, none⟩ = false ∧ (∃ y, w6.cell? ⟨b, o + 1, none⟩ = some y)) := fun v' w5 w6 x5 q1 q2 => by
    have := HB.out.put (l' := l ++ [c]) x5 (by simpa using q1) q2 HR.out
    have hc := cell_of_row _ _ (o + 1) _ _ _ this.2.2
    rw [HV.out] at hc
    exact ⟨this.1, this.2.1, frozen_of_row _ _ _ _ _ this.2.2, _, hc⟩
  have f1 : IntKind.i64.wrap ((l.length : Int) + 1 - (l.length : Int)) = 1 := by rw [show (l.length : Int) + 1 - (l.length : Int) = 1 by omega]; rfl
  have f2 : IntKind.i64.wrap 1 = 1 := rfl
  clear hr hv
  go_upto_region 4 with (go_at_call 25; refine HA.out.mono ?_; rintro x w6 ⟨v', w5, rfl, x5, q1, q2⟩; obtain ⟨ao6, cp6, he6, _⟩ := own_shape q1; subst he6; obtain ⟨hB, hK, hF, y, hy⟩ := HPU.out _ w5 w6 x5 q1 q2; have HB2 := hide hB; have HK2 := hide hK; clear x5 q1 q2 hB hK)
  clear HPU HA d0 d1 d2 d3 hF hy
  obtain ⟨w7, hw7⟩ : ∃ w7, w7 = w6.setCell ⟨b, o + 1, none⟩ (.slice ao6 (l.length + 1) cp6) := ⟨_, rfl⟩
  rw [← hw7] at HB2 HK2 ⊢
  clear hw7
  obtain ⟨d0, d1, d2, d3⟩ := HB2.out.cells
  have h9 := HB2.out.ho
  simp only [Array.set!_eq_setIfInBounds, Array.size_setIfInBounds] at h9
  rw [Array.set!_eq_setIfInBounds, Array.getElem?_setIfInBounds_self_of_lt (by simpa using h9)] at d1
  clear d0 h9
  go_wp2
  go_ret2
  exact ⟨rfl, ⟨_, HB2.out⟩, HK.out.trans HK2.out⟩
set_option maxRecDepth 100000 in
/-- Len. -/
theorem BuB.len (h : BuB w base b o e cs l) : Calls Tryd.prog 40 #[.pointer (some ⟨b, o, none⟩)] w fun x w' => x = .returned (.int .i64 (l.length : Int)) ∧ w' = w := by
  obtain ⟨v, hv, hr⟩ := h.row
  obtain ⟨d0, d1, d2, d3⟩ := h.cells
  rw [hv] at d1
  obtain ⟨ao, cp, he, _⟩ := own_shape hr
  subst he
  clear hv hr h
  go_enter Tryd.func40, Tryd.ntmps40
  go_wp2
  go_ret
  exact ⟨rfl, rfl⟩
set_option maxRecDepth 100000 in
/-- Reset. -/
theorem BuB.reset (h : BuB w base b o e cs l) : Calls Tryd.prog 28 #[.pointer (some ⟨b, o, none⟩)] w fun x w' => x = .returned (.tuple #[]) ∧ BuB w' base b o e ((cs.set! o (.pointer none)).set! (o + 1) (.slice none 0 0)) [] ∧ KpO 5 base b w w' := by
  obtain ⟨v, hv, hr⟩ := h.row
  obtain ⟨d0, d1, d2, d3⟩ := h.cells
  rw [hv] at d1
  have HH := hide h
  have ha : ∃ y, w.cell? ⟨b, o, none⟩ = some y := by rcases h.ad with q | q <;> exact ⟨_, d0.trans q⟩
  obtain ⟨y, hy⟩ := ha
  clear hv hr h d0
  go_enter Tryd.func28, Tryd.ntmps28
  go_wp2
  go_end0
  refine ⟨rfl, ⟨?_, HH.out.ge, by simpa using HH.out.ho, by simpa using HH.out.lies, HH.out.ne, .inl ?_, .slice none 0 0, ?_, World.ownsRow_nil _ _ _ _⟩, (KpO.set _).trans (KpO.set _)⟩
  · exact block_setCell' (block_setCell' HH.out.blk _ _) _ _
  · have := HH.out.ho
    rw [Array.set!_eq_setIfInBounds, Array.getElem?_setIfInBounds_ne (show o + 1 ≠ o by omega), Array.set!_eq_setIfInBounds, Array.getElem?_setIfInBounds_self_of_lt (by omega)]
  · have := HH.out.ho
    rw [Array.set!_eq_setIfInBounds, Array.getElem?_setIfInBounds_self_of_lt (by simpa using this)]
end
end Go.Proofs.YtkpdbbbeagnjpaaDoor
