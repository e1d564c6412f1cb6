/-
  strings.Builder's WriteRune (of a rune below 128), Len, Reset, String, at an address that lies in whatever block. Conditions: as in the text before.
-/
import Derived.Test.YtkpdbbbeagnjpaaGreatDoorQ03
import Derived.Shelf.Strings.BuilderF
import Derived.Lib.UnsafeStr
namespace Go.Proofs.YtkpdbbbeagnjpaaGreatDoor
open Go.RowKit Go.Lib

section
variable {w w' : World} {base b o : Nat} {e : TypeId} {cs : Array Value} {l : List UInt8}
set_option maxHeartbeats 2000000 in
set_option maxRecDepth 100000 in
theorem appendAscii_any (c : UInt8) (hc : c.toNat < 128) (v : Value) (w : World) (hr : w.ownsRow base 5 1 v l.length (Lib.byteCells l)) (hb : base ≤ w.heap.size) (hl : l.length ≤ 140737488351232) :
    Calls Tryz.prog 43 #[v, .int .i32 (c.toNat : Int)] w fun x w' => ∃ v' w5, x = .returned v' ∧ Below w.heap.size w w5 ∧ w'.ownsRow base 5 1 v' (l.length + 1) (Lib.byteCells (l ++ [c])) ∧ AppAt w5 w' v v' := by
  obtain ⟨i5, hi5, hz50, hz51, hz52⟩ := info_parts Tryz.info5n
  have P1 := hide (own_below hr (al (Below.refl _ _) (.cells #[.int .u8 (c.toNat : Int)] 5)))
  have P2 := hide (byte_new w c)
  have X5 := hide (al (Below.refl w.heap.size w) (.cells #[.int .u8 (c.toNat : Int)] 5))
  have P3 : Hid (base ≤ (w.alloc (.cells #[.int .u8 (c.toNat : Int)] 5)).heap.size) := by
    have := X5.out.size
    unfold Hid; omega
  have e1 : Hid (Lib.byteCells l ++ [.int .u8 (c.toNat : Int)] = Lib.byteCells (l ++ [c])) := by simp [Lib.byteCells, Hid]
  obtain ⟨ao, cp, he, _⟩ := own_shape hr
  subst he
  have h1 : IntKind.u32.wrap (c.toNat : Int) = (c.toNat : Int) := by simp [IntKind.wrap, IntKind.bits, IntKind.signed]; omega
  have h2 : IntKind.u8.wrap (c.toNat : Int) = (c.toNat : Int) := by simp [IntKind.wrap, IntKind.bits, IntKind.signed]; omega
  have h3 : (c.toNat : Int) ≤ 127 := by omega
  clear hr
  generalize hz : (c.toNat : Int) = z at *
  clear hz
  go_enter Tryz.func43, Tryz.ntmps43
  go_wp2_with (at_builtin; refine wpList_append_view rfl (.tmp 8) (.tmp 11) 36 rfl base 5 i5 (.int .u8 0) 1 1 Tryz.underlying36 hi5 hz50 hz51 hz52 rfl (by decide) _ l.length _ rfl P1.out ⟨w.heap.size, 0, none⟩ 1 1 [(.int .u8 z)] rfl rfl P2.out (by simp [Value.oneCell']) (by decide) (by unfold maxLen; omega) (by omega) P3.out ?_; intro v6 w6 q1 q2; have Q1 := hide q1; have Q2 := hide q2; clear q1 q2)
  go_ret
  exact ⟨v6, _, rfl, X5.out, by rw [← e1.out]; exact Q1.out, Q2.out⟩
set_option maxHeartbeats 2000000 in
set_option maxRecDepth 100000 in
/-- WriteRune. -/
theorem BuB.rune (h : BuB w base b o e cs l) (c : UInt8) (hc : c.toNat < 128) (hb : base ≤ w.heap.size) (hl : l.length ≤ 140737488351232) :
    Calls Tryz.prog 25 #[.pointer (some ⟨b, o, none⟩), .int .i32 (c.toNat : Int)] w fun x w' => x = .returned (.tuple #[.int .i64 1, .nilIface]) ∧ (∃ v', BuB w' base b o e ((cs.set! o (.pointer (some ⟨b, o, none⟩))).set! (o + 1) v') (l ++ [c])) ∧ KpO 5 base b w w' := by
  have HC := hide (h.copy hb)
  clear h
  go_enter Tryz.func25, Tryz.ntmps25
  go_upto_region 2 with (go_at_call 42; refine HC.out.mono ?_; rintro x w1 ⟨rfl, h1, k1, hs1⟩; have HB := hide h1; have HK := hide k1; have HS := hide hs1; clear h1 k1 hs1)
  clear HC
  obtain ⟨v, hv, hr⟩ := HB.out.row
  obtain ⟨d0, d1, d2, d3⟩ := HB.out.cells
  rw [hv] at d1
  have HV := hide hv
  have HR := hide hr
  obtain ⟨ao, cp, he, _⟩ := own_shape hr
  subst he
  have HA := hide (appendAscii_any c hc _ w1 hr (by have := HS.out; omega) hl)
  have HPU : Hid (∀ v' w5 w6, Below w1.heap.size w1 w5 → w6.ownsRow base 5 1 v' (l.length + 1) (Lib.byteCells (l ++ [c])) → AppAt w5 w6 (.slice ao l.length cp) v' → BuB (w6.setCell ⟨b, o + 1, none⟩ v') base b o e ((cs.set! o (.pointer (some ⟨b, o, none⟩))).set! (o + 1) v') (l ++ [c]) ∧ KpO 5 base b w1 (w6.setCell ⟨b, o + 1, none⟩ v') ∧ w6.frozen? ⟨b, o + 1, none⟩ = false ∧ (∃ y, w6.cell? ⟨b, o + 1, none⟩ = some y)) := fun v' w5 w6 x5 q1 q2 => by
    have := HB.out.put (l' := l ++ [c]) x5 (by simpa using q1) q2 HR.out
    have hc := cell_of_row _ _ (o + 1) _ _ _ this.2.2
    rw [HV.out] at hc
    exact ⟨this.1, this.2.1, frozen_of_row _ _ _ _ _ this.2.2, _, hc⟩
  have f1 : IntKind.i64.wrap ((l.length : Int) + 1 - (l.length : Int)) = 1 := by rw [show (l.length : Int) + 1 - (l.length : Int) = 1 by omega]; rfl
  have f2 : IntKind.i64.wrap 1 = 1 := rfl
  clear hr hv
  go_upto_region 4 with (go_at_call 43; refine HA.out.mono ?_; rintro x w6 ⟨v', w5, rfl, x5, q1, q2⟩; obtain ⟨ao6, cp6, he6, _⟩ := own_shape q1; subst he6; obtain ⟨hB, hK, hF, y, hy⟩ := HPU.out _ w5 w6 x5 q1 q2; have HB2 := hide hB; have HK2 := hide hK; clear x5 q1 q2 hB hK)
  clear HPU HA d0 d1 d2 d3 hF hy
  obtain ⟨w7, hw7⟩ : ∃ w7, w7 = w6.setCell ⟨b, o + 1, none⟩ (.slice ao6 (l.length + 1) cp6) := ⟨_, rfl⟩
  rw [← hw7] at HB2 HK2 ⊢
  clear hw7
  obtain ⟨d0, d1, d2, d3⟩ := HB2.out.cells
  have h9 := HB2.out.ho
  simp only [Array.set!_eq_setIfInBounds, Array.size_setIfInBounds] at h9
  rw [Array.set!_eq_setIfInBounds, Array.getElem?_setIfInBounds_self_of_lt (by simpa using h9)] at d1
  clear d0 h9
  go_wp2
  go_ret2
  exact ⟨rfl, ⟨_, HB2.out⟩, HK.out.trans HK2.out⟩
set_option maxRecDepth 100000 in
/-- Len. -/
theorem BuB.len (h : BuB w base b o e cs l) : Calls Tryz.prog 61 #[.pointer (some ⟨b, o, none⟩)] w fun x w' => x = .returned (.int .i64 (l.length : Int)) ∧ w' = w := by
  obtain ⟨v, hv, hr⟩ := h.row
  obtain ⟨d0, d1, d2, d3⟩ := h.cells
  rw [hv] at d1
  obtain ⟨ao, cp, he, _⟩ := own_shape hr
  subst he
  clear hv hr h
  go_enter Tryz.func61, Tryz.ntmps61
  go_wp2
  go_ret
  exact ⟨rfl, rfl⟩
set_option maxRecDepth 100000 in
/-- Reset. -/
theorem BuB.reset (h : BuB w base b o e cs l) : Calls Tryz.prog 47 #[.pointer (some ⟨b, o, none⟩)] w fun x w' => x = .returned (.tuple #[]) ∧ BuB w' base b o e ((cs.set! o (.pointer none)).set! (o + 1) (.slice none 0 0)) [] ∧ KpO 5 base b w w' := by
  obtain ⟨v, hv, hr⟩ := h.row
  obtain ⟨d0, d1, d2, d3⟩ := h.cells
  rw [hv] at d1
  have HH := hide h
  have ha : ∃ y, w.cell? ⟨b, o, none⟩ = some y := by rcases h.ad with q | q <;> exact ⟨_, d0.trans q⟩
  obtain ⟨y, hy⟩ := ha
  clear hv hr h d0
  go_enter Tryz.func47, Tryz.ntmps47
  go_wp2
  go_end0
  refine ⟨rfl, ⟨?_, HH.out.ge, by simpa using HH.out.ho, by simpa using HH.out.lies, HH.out.ne, .inl ?_, .slice none 0 0, ?_, World.ownsRow_nil _ _ _ _⟩, (KpO.set _).trans (KpO.set _)⟩
  · exact block_setCell' (block_setCell' HH.out.blk _ _) _ _
  · have := HH.out.ho
    rw [Array.set!_eq_setIfInBounds, Array.getElem?_setIfInBounds_ne (show o + 1 ≠ o by omega), Array.set!_eq_setIfInBounds, Array.getElem?_setIfInBounds_self_of_lt (by omega)]
  · have := HH.out.ho
    rw [Array.set!_eq_setIfInBounds, Array.getElem?_setIfInBounds_self_of_lt (by simpa using this)]
end
end Go.Proofs.YtkpdbbbeagnjpaaGreatDoor
/-
  strings.Builder's String at an address that lies in whatever block; Reset whatever lies there. Conditions: as in the texts before; a builder without bytes has no row.
-/
namespace Go.Proofs.YtkpdbbbeagnjpaaGreatDoor
open Go.RowKit Go.Lib

theorem KpO.freeze {base b g n : Nat} {w : World} {c : Array Value} {f : Nat × Nat} (hbg : base ≤ g) (hg : w.heap[g]? = some (.cells c 5 f)) : KpO 5 base b w (w.freeze ⟨g, 0, none⟩ n) := by
  unfold World.freeze
  split
  · exact KpO.refl _ _
  · refine ⟨rfl, rfl, rfl, by simp, fun k hk hF => ?_⟩
    simp only [Array.getElem?_modify]
    by_cases e : g = k
    · subst e
      exact absurd (.inr ⟨hbg, c, f, hg⟩) hF
    · rw [if_neg e]
theorem freeze_size (w : World) (a : Addr) (n : Nat) : (w.freeze a n).heap.size = w.heap.size := by
  unfold World.freeze
  split
  · rfl
  · simp
/-- A builder whose row need not be its own. -/
structure BuC (w : World) (base b o : Nat) (e : TypeId) (cs : Array Value) : Prop where
  blk : w.heap[b]? = some (.cells cs e (0, 0))
  ge : base ≤ b
  ho : o + 1 < cs.size
  lies : liesAt Tryz.prog Tryz.prog.depth e (cs.size / Tryz.prog.cellsOf e) o 45 1 = true
  ne : e ≠ 5 ∧ e ≠ 40
section
variable {w w' : World} {base b o : Nat} {e : TypeId} {cs : Array Value} {l : List UInt8}
theorem BuB.toC (h : BuB w base b o e cs l) : BuC w base b o e cs := ⟨h.blk, h.ge, h.ho, h.lies, h.ne⟩
set_option maxRecDepth 100000 in
/-- Reset. -/
theorem BuC.reset (h : BuC w base b o e cs) : Calls Tryz.prog 47 #[.pointer (some ⟨b, o, none⟩)] w fun x w' => x = .returned (.tuple #[]) ∧ BuB w' base b o e ((cs.set! o (.pointer none)).set! (o + 1) (.slice none 0 0)) [] ∧ KpO 5 base b w w' := by
  have HH := hide h
  have d2 := frozen_of_row _ _ o _ _ h.blk
  have d3 := frozen_of_row _ _ (o + 1) _ _ h.blk
  have hy : w.cell? ⟨b, o, none⟩ = some (cs[o]'(by have := h.ho; omega)) := by rw [cell_of_row _ _ _ _ _ _ h.blk]; exact Array.getElem?_eq_getElem _
  have hy2 : w.cell? ⟨b, o + 1, none⟩ = some (cs[o + 1]'h.ho) := by rw [cell_of_row _ _ _ _ _ _ h.blk]; exact Array.getElem?_eq_getElem _
  generalize cs[o]'(by have := h.ho; omega) = y at hy
  generalize cs[o + 1]'h.ho = y2 at hy2
  clear h
  go_enter Tryz.func47, Tryz.ntmps47
  go_wp2
  go_end0
  refine ⟨rfl, ⟨?_, HH.out.ge, by simpa using HH.out.ho, by simpa using HH.out.lies, HH.out.ne, .inl ?_, .slice none 0 0, ?_, World.ownsRow_nil _ _ _ _⟩, (KpO.set _).trans (KpO.set _)⟩
  · exact block_setCell' (block_setCell' HH.out.blk _ _) _ _
  · have := HH.out.ho
    rw [Array.set!_eq_setIfInBounds, Array.getElem?_setIfInBounds_ne (show o + 1 ≠ o by omega), Array.set!_eq_setIfInBounds, Array.getElem?_setIfInBounds_self_of_lt (by omega)]
  · have := HH.out.ho
    rw [Array.set!_eq_setIfInBounds, Array.getElem?_setIfInBounds_self_of_lt (by simpa using this)]
set_option maxHeartbeats 2000000 in
set_option maxRecDepth 100000 in
/-- String. -/
theorem BuB.string (h : BuB w base b o e cs l) (h0 : l = [] → cs[o + 1]? = some (.slice none 0 0)) :
    Calls Tryz.prog 26 #[.pointer (some ⟨b, o, none⟩)] w fun x w' => x = .returned (.string ⟨l.toArray⟩) ∧ BuC w' base b o e cs ∧ KpO 5 base b w w' ∧ w.heap.size ≤ w'.heap.size := by
  obtain ⟨v, hv, hr⟩ := h.row
  obtain ⟨-, d1, -, -⟩ := h.cells
  by_cases hl : l = []
  · subst hl
    rw [h0 rfl] at d1
    have c1 : w.drew.cell? ⟨b, o + 1, none⟩ = some (.slice none 0 0) := d1
    have hUS : ∀ (W : World) (q : Option Addr), (Builtin.unsafeString_ #[73, 3] 9 #[.pointer q, .int .i64 0]).run Tryz.prog W = .ok (.string .empty) W := fun W q => Lib.run_unsafeString_none W _ _ _ q
    have hSD : (Builtin.unsafeSliceData_ #[36] 73 #[.slice none 0 0]).run Tryz.prog w.drew = .ok (.pointer none) w.drew := rfl
    have HC := hide h.toC
    have HD : Hid (KpO 5 base b w w.drew) := Kept.drew (KpO.refl b w)
    have HC2 : Hid (BuC w.drew base b o e cs) := ⟨HC.out.blk, HC.out.ge, HC.out.ho, HC.out.lies, HC.out.ne⟩
    clear hv hr h h0 HC
    go_enter Tryz.func26, Tryz.ntmps26
    go_wp2
    go_region
    all_goals
      go_wp2
      go_ret
      exact ⟨rfl, HC2.out, HD.out, Nat.le_refl _⟩
  · have hn : 0 < l.length := List.length_pos_iff.2 hl
    obtain ⟨g, cap, cur, hv', hbg, hg, hnc, hcm, hcs, htake⟩ : ∃ g cap cur, v = .slice (some ⟨g, 0, none⟩) l.length cap ∧ base ≤ g ∧ w.heap[g]? = some (.cells cur 5 (0, 0)) ∧ l.length ≤ cap ∧ cap ≤ maxLen ∧ cur.size = cap * 1 ∧ cur.toList.take (l.length * 1) = Lib.byteCells l := by
      rcases hr.2 with ⟨_, hz⟩ | ⟨g, cap, cur, q1, q2, q3, q4, q5, q6, q7⟩
      · omega
      · exact ⟨g, cap, cur, q1, q2, q3, q4, q5, q6, q7⟩
    subst hv'
    rw [hv] at d1
    have c1 : w.drew.cell? ⟨b, o + 1, none⟩ = some (.slice (some ⟨g, 0, none⟩) l.length cap) := d1
    have hSD : (Builtin.unsafeSliceData_ #[36] 73 #[.slice (some ⟨g, 0, none⟩) l.length cap]).run Tryz.prog w.drew = .ok (.pointer (some ⟨g, 0, none⟩)) w.drew := Lib.run_unsafeSliceData_row _ _ _ _ _ _ (by omega)
    have hUS : (Builtin.unsafeString_ #[73, 3] 9 #[.pointer (some ⟨g, 0, none⟩), .int .i64 l.length]).run Tryz.prog w.drew = .ok (.string ⟨l.toArray⟩) (w.drew.freeze ⟨g, 0, none⟩ l.length) := by
      refine Lib.run_unsafeString_row w.drew 73 3 9 5 Tryz.underlying73 (by kernel_rfl) g cur.size (by have hg' : w.drew.heap[g]? = some (.cells cur 5 (0, 0)) := hg; simp [World.shape?, hg']) l hl (by omega) (by unfold maxLen at hcm; omega) ?_
      intro j x hx
      have := hr.cells (g := g) rfl j (.int .u8 x.toNat) (by simp [Lib.byteCells, hx])
      exact this
    have HD : Hid (KpO 5 base b w (w.drew.freeze ⟨g, 0, none⟩ l.length)) := (Kept.drew (KpO.refl b w) : KpO 5 base b w w.drew).trans (KpO.freeze (w := w.drew) hbg hg)
    have hgb := h.apart hr (.inl rfl) g rfl
    have HC2 : Hid (BuC (w.drew.freeze ⟨g, 0, none⟩ l.length) base b o e cs) := by
      refine ⟨?_, h.ge, h.ho, h.lies, h.ne⟩
      have hb : w.drew.heap[b]? = some (.cells cs e (0, 0)) := h.blk
      unfold World.freeze
      split
      · exact hb
      · simp only [Array.getElem?_modify]
        rw [if_neg hgb]
        exact hb
    have HS : Hid (w.heap.size ≤ (w.drew.freeze ⟨g, 0, none⟩ l.length).heap.size) := by unfold Hid; rw [freeze_size]; exact Nat.le_refl _
    clear hv hr h h0 hbg hg hcm hcs htake
    go_enter Tryz.func26, Tryz.ntmps26
    go_wp2
    go_region
    all_goals
      go_wp2
      go_ret
      exact ⟨rfl, HC2.out, HD.out, HS.out⟩
end
end Go.Proofs.YtkpdbbbeagnjpaaGreatDoor
