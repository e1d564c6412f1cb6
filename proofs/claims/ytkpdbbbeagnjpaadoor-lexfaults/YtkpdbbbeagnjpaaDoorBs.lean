/-
  strings.Builder's String at an address that lies in whatever block; Reset whatever lies there. Conditions: as in the texts before; a builder without bytes has no row.
-/
import Derived.Test.YtkpdbbbeagnjpaaDoorBv
import Derived.Lib.UnsafeStr
namespace Go.Proofs.YtkpdbbbeagnjpaaDoor
open Go.RowKit Go.Lib

theorem KpO.freeze {base b g n : Nat} {w : World} {c : Array Value} {f : Nat × Nat} (hbg : base ≤ g) (hg : w.heap[g]? = some (.cells c 5 f)) : KpO 5 base b w (w.freeze ⟨g, 0, none⟩ n) := by
  unfold World.freeze
  split
  · exact KpO.refl _ _
  · refine ⟨rfl, rfl, rfl, by simp, fun k hk hF => ?_⟩
    simp only [Array.getElem?_modify]
    by_cases e : g = k
    · subst e
      exact absurd (.inr ⟨hbg, c, f, hg⟩) hF
    · rw [if_neg e]
theorem freeze_size (w : World) (a : Addr) (n : Nat) : (w.freeze a n).heap.size = w.heap.size := by
  unfold World.freeze
  split
  · rfl
  · simp
/-- A builder whose row need not be its own. -/
structure BuC (w : World) (base b o : Nat) (e : TypeId) (cs : Array Value) : Prop where
  blk : w.heap[b]? = some (.cells cs e (0, 0))
  ge : base ≤ b
  ho : o + 1 < cs.size
  lies : liesAt Tryd.prog Tryd.prog.depth e (cs.size / Tryd.prog.cellsOf e) o 40 1 = true
  ne : e ≠ 5 ∧ e ≠ 34
section
variable {w w' : World} {base b o : Nat} {e : TypeId} {cs : Array Value} {l : List UInt8}
theorem BuB.toC (h : BuB w base b o e cs l) : BuC w base b o e cs := ⟨h.blk, h.ge, h.ho, h.lies, h.ne⟩
set_option maxRecDepth 100000 in
/-- Reset. -/
theorem BuC.reset (h : BuC w base b o e cs) : Calls Tryd.prog 28 #[.pointer (some ⟨b, o, none⟩)] w fun x w' => x = .returned (.tuple #[]) ∧ BuB w' base b o e ((cs.set! o (.pointer none)).set! (o + 1) (.slice none 0 0)) [] ∧ KpO 5 base b w w' := by
  have HH := hide h
  have d2 := frozen_of_row _ _ o _ _ h.blk
  have d3 := frozen_of_row _ _ (o + 1) _ _ h.blk
  have hy : w.cell? ⟨b, o, none⟩ = some (cs[o]'(by have := h.ho; omega)) := by rw [cell_of_row _ _ _ _ _ _ h.blk]; exact Array.getElem?_eq_getElem _
  have hy2 : w.cell? ⟨b, o + 1, none⟩ = some (cs[o + 1]'h.ho) := by rw [cell_of_row _ _ _ _ _ _ h.blk]; exact Array.getElem?_eq_getElem _
  generalize cs[o]'(by have := h.ho; omega) = y at hy
  generalize cs[o + 1]'h.ho = y2 at hy2
  clear h
  go_enter Tryd.func28, Tryd.ntmps28
  go_wp2
  go_end0
  refine ⟨rfl, ⟨?_, HH.out.ge, by simpa using HH.out.ho, by simpa using HH.out.lies, HH.out.ne, .inl ?_, .slice none 0 0, ?_, World.ownsRow_nil _ _ _ _⟩, (KpO.set _).trans (KpO.set _)⟩
  · exact block_setCell' (block_setCell' HH.out.blk _ _) _ _
  · have := HH.out.ho
    rw [Array.set!_eq_setIfInBounds, Array.getElem?_setIfInBounds_ne (show o + 1 ≠ o by omega), Array.set!_eq_setIfInBounds, Array.getElem?_setIfInBounds_self_of_lt (by omega)]
  · have := HH.out.ho
    rw [Array.set!_eq_setIfInBounds, Array.getElem?_setIfInBounds_self_of_lt (by simpa using this)]
set_option maxHeartbeats 2000000 in
set_option maxRecDepth 100000 in
/-- String. -/
theorem BuB.string (h : BuB w base b o e cs l) (h0 : l = [] → cs[o + 1]? = some (.slice none 0 0)) :
    Calls Tryd.prog 16 #[.pointer (some ⟨b, o, none⟩)] w fun x w' => x = .returned (.string ⟨l.toArray⟩) ∧ BuC w' base b o e cs ∧ KpO 5 base b w w' ∧ w.heap.size ≤ w'.heap.size := by
  obtain ⟨v, hv, hr⟩ := h.row
  obtain ⟨-, d1, -, -⟩ := h.cells
  by_cases hl : l = []
  · subst hl
    rw [h0 rfl] at d1
    have c1 : w.drew.cell? ⟨b, o + 1, none⟩ = some (.slice none 0 0) := d1
    have hUS : ∀ (W : World) (q : Option Addr), (Builtin.unsafeString_ #[58, 3] 9 #[.pointer q, .int .i64 0]).run Tryd.prog W = .ok (.string .empty) W := fun W q => Lib.run_unsafeString_none W _ _ _ q
    have hSD : (Builtin.unsafeSliceData_ #[38] 58 #[.slice none 0 0]).run Tryd.prog w.drew = .ok (.pointer none) w.drew := rfl
    have HC := hide h.toC
    have HD : Hid (KpO 5 base b w w.drew) := Kept.drew (KpO.refl b w)
    have HC2 : Hid (BuC w.drew base b o e cs) := ⟨HC.out.blk, HC.out.ge, HC.out.ho, HC.out.lies, HC.out.ne⟩
    clear hv hr h h0 HC
    go_enter Tryd.func16, Tryd.ntmps16
    go_wp2
    go_region
    all_goals
      go_wp2
      go_ret
      exact ⟨rfl, HC2.out, HD.out, Nat.le_refl _⟩
  · have hn : 0 < l.length := List.length_pos_iff.2 hl
    obtain ⟨g, cap, cur, hv', hbg, hg, hnc, hcm, hcs, htake⟩ : ∃ g cap cur, v = .slice (some ⟨g, 0, none⟩) l.length cap ∧ base ≤ g ∧ w.heap[g]? = some (.cells cur 5 (0, 0)) ∧ l.length ≤ cap ∧ cap ≤ maxLen ∧ cur.size = cap * 1 ∧ cur.toList.take (l.length * 1) = Lib.byteCells l := by
      rcases hr.2 with ⟨_, hz⟩ | ⟨g, cap, cur, q1, q2, q3, q4, q5, q6, q7⟩
      · omega
      · exact ⟨g, cap, cur, q1, q2, q3, q4, q5, q6, q7⟩
    subst hv'
    rw [hv] at d1
    have c1 : w.drew.cell? ⟨b, o + 1, none⟩ = some (.slice (some ⟨g, 0, none⟩) l.length cap) := d1
    have hSD : (Builtin.unsafeSliceData_ #[38] 58 #[.slice (some ⟨g, 0, none⟩) l.length cap]).run Tryd.prog w.drew = .ok (.pointer (some ⟨g, 0, none⟩)) w.drew := Lib.run_unsafeSliceData_row _ _ _ _ _ _ (by omega)
    have hUS : (Builtin.unsafeString_ #[58, 3] 9 #[.pointer (some ⟨g, 0, none⟩), .int .i64 l.length]).run Tryd.prog w.drew = .ok (.string ⟨l.toArray⟩) (w.drew.freeze ⟨g, 0, none⟩ l.length) := by
      refine Lib.run_unsafeString_row w.drew 58 3 9 5 Tryd.underlying58 (by kernel_rfl) g cur.size (by have hg' : w.drew.heap[g]? = some (.cells cur 5 (0, 0)) := hg; simp [World.shape?, hg']) l hl (by omega) (by unfold maxLen at hcm; omega) ?_
      intro j x hx
      have := hr.cells (g := g) rfl j (.int .u8 x.toNat) (by simp [Lib.byteCells, hx])
      exact this
    have HD : Hid (KpO 5 base b w (w.drew.freeze ⟨g, 0, none⟩ l.length)) := (Kept.drew (KpO.refl b w) : KpO 5 base b w w.drew).trans (KpO.freeze (w := w.drew) hbg hg)
    have hgb := h.apart hr (.inl rfl) g rfl
    have HC2 : Hid (BuC (w.drew.freeze ⟨g, 0, none⟩ l.length) base b o e cs) := by
      refine ⟨?_, h.ge, h.ho, h.lies, h.ne⟩
      have hb : w.drew.heap[b]? = some (.cells cs e (0, 0)) := h.blk
      unfold World.freeze
      split
      · exact hb
      · simp only [Array.getElem?_modify]
        rw [if_neg hgb]
        exact hb
    have HS : Hid (w.heap.size ≤ (w.drew.freeze ⟨g, 0, none⟩ l.length).heap.size) := by unfold Hid; rw [freeze_size]; exact Nat.le_refl _
    clear hv hr h h0 hbg hg hcm hcs htake
    go_enter Tryd.func16, Tryd.ntmps16
    go_wp2
    go_region
    all_goals
      go_wp2
      go_ret
      exact ⟨rfl, HC2.out, HD.out, HS.out⟩
end
end Go.Proofs.YtkpdbbbeagnjpaaDoor
