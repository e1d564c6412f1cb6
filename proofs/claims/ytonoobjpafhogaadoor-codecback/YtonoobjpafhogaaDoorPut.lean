/-
  (*codec.Writer).put by its contract: what is wrong first is kept; what has no room is too long; else the bytes stand behind what was. Conditions: all bytes together are at most 2^47.
-/
import Derived.Test.YtonoobjpafhogaaDoorOwn
import Derived.Deep.QuietTactic
import Derived.BigQuiet
import Derived.LaidEql
import Derived.WideLaws
namespace Go.Proofs.YtonoobjpafhogaaDoor
open Go.RowKit Go.Lib

/-- What a Writer is behind a call that lays s down, or that had the error c. -/
def putP (most : Nat) (E : Int) (S s : List UInt8) (c : Int) : Int × List UInt8 :=
  if E ≠ 0 then (E, S) else if c ≠ 0 then (c, []) else if most < S.length + s.length then (11, []) else (0, S ++ s)

theorem put_kept (F : Nat → Prop) (w : World) (b most : Nat) (E : Int) (S : List UInt8) (s : ByteArray) (x : Value) (hE : E ≠ 0) (h : WAt 73 F w b most (errOf E) S) :
    Calls Tryd.prog 50 #[.pointer (some ⟨b, 0, none⟩), .string s, x] w fun e w' => e = .returned (.tuple #[]) ∧ WAt 73 (fun k => F k ∨ w.heap.size ≤ k) w' b most (errOf E) S ∧ Kept F w w' := by
  have hk : WAt 73 (fun k => F k ∨ w.heap.size ≤ k) w b most (errOf E) S := h.mono (fun k hk _ => .inl hk)
  obtain ⟨ao, cap, hf, hc⟩ := h
  have h2 := hc.cell.2.2.1
  rw [errOf_ne hE] at h2
  clear hc
  have HK : Hid (WAt 73 (fun k => F k ∨ w.heap.size ≤ k) w b most (errOf E) S) := hk
  clear hk hE
  go_enter Tryd.func50, Tryd.ntmps50
  go_wp2
  exact bodyPost_ret (results_none Tryd.results50 _ _ _) rfl ⟨rfl, HK.out, Kept.refl _ _⟩

theorem wrong_at (F : Nat → Prop) (w : World) (b : Nat) (ao : Option Addr) (cap most : Nat) (x y : Value) (S : List UInt8) (nq : Nat) (hb : F b) (hc : CW 73 w b ao cap most x S) :
    WAt 73 (fun k => F k ∨ w.heap.size ≤ k) (((w.drewN nq).setCell ⟨b, 2, none⟩ y).setCell ⟨b, 0, none⟩ (.slice none 0 0)) b most y [] := by
  refine ⟨none, 0, ?_, ?_, World.ownsRow_nil _ _ _ _⟩
  · rintro k (rfl | ⟨a, ha, _⟩)
    · exact .inl hb
    · cases ha
  · have h1 : (w.drewN nq).heap[b]? = some (.cells #[.slice ao S.length cap, .int .i64 most, x] 73 (0, 0)) := hc.1
    exact block_setCell (block_setCell h1 2 y) 0 _
theorem put_at (F : Nat → Prop) (w w' : World) (b : Nat) (ao ao' : Option Addr) (cap cap' k' most : Nat) (x : Value) (S : List UInt8) (s : ByteArray) (nq : Nat) (hf : ∀ k, FW b ao k → F k) (hc : CW 73 w b ao cap most x S)
    (hown : w'.ownsRow 0 5 1 (.slice ao' k' cap') (S.length + s.size) (cellsOf S ++ strCells s)) (hg : (w.drewN nq).grownBy w' (Value.ownBlock (.slice ao S.length cap))) (hn : ∀ a, ao' = some a → ao = some a ∨ a.block = (w.drewN nq).heap.size) :
    WAt 73 (fun k => F k ∨ w.heap.size ≤ k) (w'.setCell ⟨b, 0, none⟩ (.slice ao' k' cap')) b most x (S ++ s.data.toList) ∧ Kept F w (w'.setCell ⟨b, 0, none⟩ (.slice ao' k' cap')) := by
  have hap := hc.apart (by decide)
  have hbl : b < w.heap.size := lt_of_block hc.1
  have hbn : some b ≠ Value.ownBlock (.slice ao S.length cap) := by
    intro e
    cases ao with
    | none => cases e
    | some a => simp only [Value.ownBlock, Option.some.injEq] at e; exact hap a rfl e.symm
  have hb' : w'.heap[b]? = some (.cells #[.slice ao S.length cap, .int .i64 most, x] 73 (0, 0)) := by rw [hg.block b hbl hbn]; exact hc.1
  have hlen : (S ++ s.data.toList).length = S.length + s.size := by simp
  have hk' : k' = S.length + s.size := by
    rcases hown.2 with ⟨hv, h0⟩ | ⟨g, c, cur, hv, _⟩
    · injection hv with _ h2 _; omega
    · injection hv with _ h2 _
  subst hk'
  have hnb : ∀ a, ao' = some a → a.block ≠ b := by
    intro a ha
    rcases hn a ha with h | h
    · exact hap a h
    · rw [h]; exact Nat.ne_of_gt hbl
  refine ⟨⟨ao', cap', ?_, ?_, ?_⟩, ?_⟩
  · rintro k (rfl | ⟨a, ha, rfl⟩)
    · exact .inl (hf _ (.inl rfl))
    · rcases hn a ha with h | h
      · exact .inl (hf _ (.inr ⟨a, h, rfl⟩))
      · exact .inr (by rw [h]; exact Nat.le_refl _)
  · rw [hlen]; exact block_setCell hb' 0 _
  · rw [hlen, cellsOf_append, ← cellsOf_str]
    refine ownsRow_setCell_other hown ?_ _
    cases ao' with
    | none => simp [Value.ownBlock]
    | some a => simp only [Value.ownBlock, ne_eq, Option.some.injEq]; exact hnb a rfl
  · refine (((Kept.refl F w).drewN nq).grown hg ?_).setCell (hf b (.inl rfl)) _
    intro k hk
    cases ao with
    | none => cases hk
    | some a => simp only [Value.ownBlock, Option.some.injEq] at hk; exact hf k (.inr ⟨a, rfl, hk⟩)

set_option maxHeartbeats 1000000 in
theorem put_err (F : Nat → Prop) (w : World) (b most : Nat) (S : List UInt8) (s : ByteArray) (c : Int) (hm : most ≤ 9223372036854775807) (hS : S.length ≤ 9223372036854775807) (h : WAt 73 F w b most .nilIface S) :
    Calls Tryd.prog 50 #[.pointer (some ⟨b, 0, none⟩), .string s, .iface 98 (.agg #[.int .i64 c])] w fun e w' => e = .returned (.tuple #[]) ∧ WAt 73 (fun k => F k ∨ w.heap.size ≤ k) w' b most (.iface 98 (.agg #[.int .i64 c])) [] ∧ Kept F w w' := by
  obtain ⟨ao, cap, hf, hc⟩ := h
  obtain ⟨h0, h1, h2, f0, f1, f2⟩ := hc.cell
  have hb : F b := hf b (.inl rfl)
  have HC : Hid (CW 73 w b ao cap most .nilIface S) := hc
  clear hc
  go_enter Tryd.func50, Tryd.ntmps50
  go_wp2
  go_quiet (fail)
  go_wp2
  exact bodyPost_ret (results_none Tryd.results50 _ _ _) rfl ⟨rfl, wrong_at F w b ao cap most _ _ S nq hb HC.out, ((Kept.refl _ _).drewN _).setCell hb _ |>.setCell hb _⟩

set_option maxHeartbeats 1000000 in
theorem put_long (F : Nat → Prop) (w : World) (b most : Nat) (S : List UInt8) (s : ByteArray) (hm : most ≤ 9223372036854775807) (hS : S.length ≤ 9223372036854775807) (hs : s.size ≤ 9223372036854775807) (hl : (most : Int) - S.length < s.size) (h : WAt 73 F w b most .nilIface S) :
    Calls Tryd.prog 50 #[.pointer (some ⟨b, 0, none⟩), .string s, .nilIface] w fun e w' => e = .returned (.tuple #[]) ∧ WAt 73 (fun k => F k ∨ w.heap.size ≤ k) w' b most (.iface 98 (.agg #[.int .i64 11])) [] ∧ Kept F w w' := by
  obtain ⟨ao, cap, hf, hc⟩ := h
  obtain ⟨h0, h1, h2, f0, f1, f2⟩ := hc.cell
  have hb : F b := hf b (.inl rfl)
  have HC : Hid (CW 73 w b ao cap most .nilIface S) := hc
  clear hc
  go_enter Tryd.func50, Tryd.ntmps50
  go_wp2
  go_quiet (fail)
  go_wp2
  exact bodyPost_ret (results_none Tryd.results50 _ _ _) rfl ⟨rfl, wrong_at F w b ao cap most _ _ S nq hb HC.out, ((Kept.refl _ _).drewN _).setCell hb _ |>.setCell hb _⟩

theorem cell_grown {w w1 : World} {nq : Nat} {row : Option Nat} (hg : (w.drewN nq).grownBy w1 row) {b : Nat} (hb : b < w.heap.size) (hne : some b ≠ row) (j : Nat) {v : Value} (h : w.cell? ⟨b, j, none⟩ = some v) : w1.cell? ⟨b, j, none⟩ = some v :=
  (World.cell?_of_block (w := w) (a := ⟨b, j, none⟩) (hg.block b hb hne)).trans h
theorem frozen_grown {w w1 : World} {nq : Nat} {row : Option Nat} (hg : (w.drewN nq).grownBy w1 row) {b : Nat} (hb : b < w.heap.size) (hne : some b ≠ row) (j : Nat) (h : w.frozen? ⟨b, j, none⟩ = false) : w1.frozen? ⟨b, j, none⟩ = false :=
  (World.frozen?_of_block (w := w) (a := ⟨b, j, none⟩) (hg.block b hb hne)).trans h
theorem hide {p : Prop} (h : p) : Hid p := h

set_option maxRecDepth 100000 in
set_option maxHeartbeats 1000000 in
theorem put_fits (F : Nat → Prop) (w : World) (b most : Nat) (S : List UInt8) (s : ByteArray) (hm : most ≤ 9223372036854775807) (hS : S.length + s.size ≤ 140737488355328) (hl : (s.size : Int) ≤ most - S.length) (h : WAt 73 F w b most .nilIface S) :
    Calls Tryd.prog 50 #[.pointer (some ⟨b, 0, none⟩), .string s, .nilIface] w fun e w' => e = .returned (.tuple #[]) ∧ WAt 73 (fun k => F k ∨ w.heap.size ≤ k) w' b most .nilIface (S ++ s.data.toList) ∧ Kept F w w' := by
  obtain ⟨ao, cap, hf, hc⟩ := h
  obtain ⟨h0, h1, h2, f0, f1, f2⟩ := hc.cell
  have hS' : S.length ≤ 9223372036854775807 := by omega
  have hown := hc.2
  have HC : Hid (CW 73 w b ao cap most .nilIface S) := hc
  have hbl : b < w.heap.size := lt_of_block hc.1
  have hbn : some b ≠ Value.ownBlock (.slice ao S.length cap) := by
    intro e
    cases ao with
    | none => cases e
    | some a => simp only [Value.ownBlock, Option.some.injEq] at e; exact hc.apart (by decide) a rfl e.symm
  clear hc
  obtain ⟨i0, hi, hz0, hz1, hz2⟩ := info_parts Tryd.info5
  go_enter Tryd.func50, Tryd.ntmps50
  go_wp2
  go_quiet (fail)
  have HO : Hid (w.ownsRow 0 5 1 (.slice ao S.length cap) S.length (cellsOf S)) := hown
  clear hown
  go_wp2_with (at_builtin; refine wpList_append_str _ rfl (.tmp 45) (.tmp 46) 65 9 rfl 0 5 i0 Tryd.underlying65 Tryd.underlying9 hi hz0 hz1 hz2 ao S.length cap (cellsOf S) rfl HO.out s rfl (by unfold maxLen; omega) hS (Nat.zero_le _) ?_; intro ao' k' cap' w1 hown1 hgrow1 hn1; have hc1 := cell_grown hgrow1 (b := b) hbl hbn 0 h0; have hf1 := frozen_grown hgrow1 (b := b) hbl hbn 0 f0; have HO1 := hide hown1; have HG1 := hide hgrow1; have HN1 := hide hn1; clear hown1 hgrow1 hn1)
  go_end0
  exact ⟨rfl, put_at F w w1 b ao ao' cap cap' k' most _ S s nq hf HC.out HO1.out HG1.out HN1.out⟩

theorem putP_kept {most : Nat} {E c : Int} {S s : List UInt8} (h : E ≠ 0) : putP most E S s c = (E, S) := by simp [putP, h]
theorem putP_err {most : Nat} {c : Int} {S s : List UInt8} (h : c ≠ 0) : putP most 0 S s c = (c, []) := by simp [putP, h]
theorem putP_long {most : Nat} {S s : List UInt8} (h : most < S.length + s.length) : putP most 0 S s 0 = (11, []) := by simp [putP, h]
theorem putP_fits {most : Nat} {S s : List UInt8} (h : S.length + s.length ≤ most) : putP most 0 S s 0 = (0, S ++ s) := by
  have : ¬ most < S.length + s.length := by omega
  simp [putP, this]

/-- put, whatever the Writer is. -/
theorem put_any (F : Nat → Prop) (w : World) (b most : Nat) (E c : Int) (S : List UInt8) (s : ByteArray) (hm : most ≤ 9223372036854775807) (hS : S.length + s.size ≤ 140737488355328) (h : WAt 73 F w b most (errOf E) S) :
    Calls Tryd.prog 50 #[.pointer (some ⟨b, 0, none⟩), .string s, errOf c] w fun e w' => e = .returned (.tuple #[]) ∧ WAt 73 (fun k => F k ∨ w.heap.size ≤ k) w' b most (errOf (putP most E S s.data.toList c).1) (putP most E S s.data.toList c).2 ∧ Kept F w w' := by
  have hsz : s.data.toList.length = s.size := by simp
  by_cases hE : E = 0
  · subst hE
    by_cases hc : c = 0
    · subst hc
      by_cases hl : most < S.length + s.size
      · rw [putP_long (by omega)]
        exact put_long F w b most S s hm (by omega) (by omega) (by omega) h
      · rw [putP_fits (by omega)]
        exact put_fits F w b most S s hm hS (by omega) h
    · rw [putP_err hc, errOf_ne hc]
      exact put_err F w b most S s c hm (by omega) h
  · rw [putP_kept hE]
    exact put_kept F w b most E S s _ hE h
end Go.Proofs.YtonoobjpafhogaaDoor
