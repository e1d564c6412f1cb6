/-
  The document's Writer by its contracts, going on: NewWriter, wrong, Raw, Num, Text, Done. Conditions: the numbers are ints; all bytes together are at most 2^47.
-/
import Derived.Test.YtonoobjpafhogaaDoorRefA
namespace Go.Proofs.YtonoobjpafhogaaDoor
open Go.RowKit Go.Lib

/-- What the document's Writer is behind a call. -/
def refP (most : Nat) (E : Int) (S s : List UInt8) (c : Int) : Int × List UInt8 :=
  if E ≠ 0 then (E, S) else if c ≠ 0 then (c, S) else if most < S.length + s.length then (11, S) else (0, S ++ s)
theorem refP_kept {most : Nat} {E c : Int} {S s : List UInt8} (h : E ≠ 0) : refP most E S s c = (E, S) := by simp [refP, h]
theorem refP_err {most : Nat} {c : Int} {S s : List UInt8} (h : c ≠ 0) : refP most 0 S s c = (c, S) := by simp [refP, h]
theorem refP_long {most : Nat} {S s : List UInt8} (h : most < S.length + s.length) : refP most 0 S s 0 = (11, S) := by simp [refP, h]
theorem refP_fits {most : Nat} {S s : List UInt8} (h : S.length + s.length ≤ most) : refP most 0 S s 0 = (0, S ++ s) := by
  have : ¬ most < S.length + s.length := by omega
  simp [refP, this]

theorem refNewWriter_at (n : Int) (hn : n ≤ 9223372036854775807) (w : World) :
    Calls Tryd.prog 14 #[.int .i64 n] w fun e w' => e = .returned (.pointer (some ⟨w.heap.size, 0, none⟩)) ∧ WAt 75 (fun k => k = w.heap.size) w' w.heap.size (roomOf n) (.int .i64 0) [] ∧ Below w.heap.size w w' ∧ w'.heap.size = w.heap.size + 1 := by
  have hw : WAt 75 (fun k => k = w.heap.size) (w.alloc (.cells #[.slice none 0 0, .int .i64 (roomOf n), .int .i64 0] 75)) w.heap.size (roomOf n) (.int .i64 0) [] := by
    refine ⟨none, 0, ?_, heap_alloc_new w _, World.ownsRow_nil _ _ _ _⟩
    rintro k (rfl | ⟨a, ha, _⟩)
    · rfl
    · cases ha
  have HW := hide hw
  clear hw
  by_cases h : n < 0
  · have e : roomOf n = 0 := by simp [roomOf]; omega
    rw [e] at HW ⊢
    go_enter Tryd.func14, Tryd.ntmps14
    go_wp2
    go_ret
    exact ⟨rfl, HW.out, (Below.refl _ _).alloc (Nat.le_refl _) _, by simp⟩
  · obtain ⟨m, rfl⟩ := Int.eq_ofNat_of_zero_le (show 0 ≤ n by omega)
    have e : roomOf (m : Int) = m := by simp [roomOf]
    rw [e] at HW ⊢
    go_enter Tryd.func14, Tryd.ntmps14
    go_wp2
    go_ret
    exact ⟨rfl, HW.out, (Below.refl _ _).alloc (Nat.le_refl _) _, by simp⟩

theorem WAt.setX {T : TypeId} {F : Nat → Prop} {w : World} {b most : Nat} {x : Value} {S : List UInt8} (h : WAt T F w b most x S) (hT : T ≠ 5) (y : Value) : WAt T F (w.setCell ⟨b, 2, none⟩ y) b most y S ∧ Kept F w (w.setCell ⟨b, 2, none⟩ y) := by
  obtain ⟨ao, cap, hf, hc⟩ := h
  refine ⟨⟨ao, cap, hf, block_setCell hc.1 2 y, ?_⟩, (Kept.refl _ _).setCell (hf b (.inl rfl)) _⟩
  refine ownsRow_setCell_other hc.2 ?_ _
  cases ao with
  | none => simp [Value.ownBlock]
  | some a => simp only [Value.ownBlock, ne_eq, Option.some.injEq]; exact hc.apart hT a rfl

/-- wrong: what was wrong first is kept. -/
def wrongE (E c : Int) : Int := if E = 0 then c else E
theorem wrong_any (F : Nat → Prop) (w : World) (b most : Nat) (E c : Int) (S : List UInt8) (h : WAt 75 F w b most (.int .i64 E) S) :
    Calls Tryd.prog 55 #[.pointer (some ⟨b, 0, none⟩), .int .i64 c] w fun e w' => e = .returned (.tuple #[]) ∧ WAt 75 F w' b most (.int .i64 (wrongE E c)) S ∧ Kept F w w' := by
  have H := hide h
  obtain ⟨ao, cap, hf, hc⟩ := h
  obtain ⟨h0, h1, h2, f0, f1, f2⟩ := hc.cell
  clear hc hf
  by_cases hE : E = 0
  · subst hE
    have e : wrongE 0 c = c := by simp [wrongE]
    rw [e]
    go_enter Tryd.func55, Tryd.ntmps55
    go_wp2
    go_end0
    exact ⟨rfl, H.out.setX (by decide) _⟩
  · have e : wrongE E c = E := by simp [wrongE, hE]
    have hb : (E == 0) = false := by simpa using hE
    rw [e]
    clear hE
    go_enter Tryd.func55, Tryd.ntmps55
    go_wp2
    go_end0
    exact ⟨rfl, H.out, Kept.refl _ _⟩
theorem put_atT (T : TypeId) (hT : T ≠ 5) (F : Nat → Prop) (w w' : World) (b : Nat) (ao ao' : Option Addr) (cap cap' k' most : Nat) (x : Value) (S : List UInt8) (s : ByteArray) (nq : Nat) (hf : ∀ k, FW b ao k → F k) (hc : CW T w b ao cap most x S)
    (hown : w'.ownsRow 0 5 1 (.slice ao' k' cap') (S.length + s.size) (cellsOf S ++ strCells s)) (hg : (w.drewN nq).grownBy w' (Value.ownBlock (.slice ao S.length cap))) (hn : ∀ a, ao' = some a → ao = some a ∨ a.block = (w.drewN nq).heap.size) :
    WAt T (fun k => F k ∨ w.heap.size ≤ k) (w'.setCell ⟨b, 0, none⟩ (.slice ao' k' cap')) b most x (S ++ s.data.toList) ∧ Kept F w (w'.setCell ⟨b, 0, none⟩ (.slice ao' k' cap')) := by
  have hap := hc.apart hT
  have hbl : b < w.heap.size := lt_of_block hc.1
  have hbn : some b ≠ Value.ownBlock (.slice ao S.length cap) := by
    intro e
    cases ao with
    | none => cases e
    | some a => simp only [Value.ownBlock, Option.some.injEq] at e; exact hap a rfl e.symm
  have hb' : w'.heap[b]? = some (.cells #[.slice ao S.length cap, .int .i64 most, x] T (0, 0)) := by rw [hg.block b hbl hbn]; exact hc.1
  have hlen : (S ++ s.data.toList).length = S.length + s.size := by simp
  have hk' : k' = S.length + s.size := by
    rcases hown.2 with ⟨hv, h0⟩ | ⟨g, c, cur, hv, _⟩
    · injection hv with _ h2 _; omega
    · injection hv with _ h2 _
  subst hk'
  have hnb : ∀ a, ao' = some a → a.block ≠ b := by
    intro a ha
    rcases hn a ha with h | h
    · exact hap a h
    · rw [h]; exact Nat.ne_of_gt hbl
  refine ⟨⟨ao', cap', ?_, ?_, ?_⟩, ?_⟩
  · rintro k (rfl | ⟨a, ha, rfl⟩)
    · exact .inl (hf _ (.inl rfl))
    · rcases hn a ha with h | h
      · exact .inl (hf _ (.inr ⟨a, h, rfl⟩))
      · exact .inr (by rw [h]; exact Nat.le_refl _)
  · rw [hlen]; exact block_setCell hb' 0 _
  · rw [hlen, cellsOf_append, ← cellsOf_str]
    refine ownsRow_setCell_other hown ?_ _
    cases ao' with
    | none => simp [Value.ownBlock]
    | some a => simp only [Value.ownBlock, ne_eq, Option.some.injEq]; exact hnb a rfl
  · refine (((Kept.refl F w).drewN nq).grown hg ?_).setCell (hf b (.inl rfl)) _
    intro k hk
    cases ao with
    | none => cases hk
    | some a => simp only [Value.ownBlock, Option.some.injEq] at hk; exact hf k (.inr ⟨a, rfl, hk⟩)


set_option maxHeartbeats 1000000 in
set_option maxRecDepth 100000 in
theorem refRaw_kept (F : Nat → Prop) (w : World) (b most : Nat) (E : Int) (S : List UInt8) (s : ByteArray) (hm : most ≤ 9223372036854775807) (hS : S.length + s.size ≤ 140737488355328) (hE : E ≠ 0) (h : WAt 75 F w b most (.int .i64 E) S) :
    Calls Tryd.prog 39 #[.pointer (some ⟨b, 0, none⟩), .string s] w fun e w' => e = .returned (.tuple #[]) ∧ WAt 75 F w' b most (.int .i64 E) S ∧ Kept F w w' := by
  have H := hide h
  have ew : wrongE E 11 = E := by simp [wrongE, hE]
  have EW := hide ew
  obtain ⟨ao, cap, hf, hc⟩ := h
  obtain ⟨h0, h1, h2, f0, f1, f2⟩ := hc.cell
  have hb : (E == 0) = false := by simpa using hE
  have hS' : S.length ≤ 9223372036854775807 := by omega
  have hs' : s.size ≤ 9223372036854775807 := by omega
  clear hc hf hE ew
  by_cases hl : (most : Int) - S.length < s.size
  · go_enter Tryd.func39, Tryd.ntmps39
    go_wp2
    go_quiet (fail)
    go_wp2_with fail
    refine (wrong_any F _ b most E 11 S (H.out.kept ((Kept.refl (fun _ => False) _).drewN nq) (fun _ _ h => h))).mono ?_
    rintro e w1 ⟨rfl, x1, k1⟩
    rw [EW.out] at x1
    have X1 := hide x1
    obtain ⟨ao1, cap1, hf1, hc1⟩ := x1
    obtain ⟨g0, g1, g2, _⟩ := hc1.cell
    have K1 := hide k1
    clear hf1 hc1 k1 g0 g1
    go_wp2
    go_end0
    exact ⟨rfl, X1.out, ((Kept.refl F w).drewN nq).trans K1.out⟩
  · go_enter Tryd.func39, Tryd.ntmps39
    go_wp2
    go_quiet (fail)
    go_wp2
    go_end0
    exact ⟨rfl, H.out.kept ((Kept.refl (fun _ => False) _).drewN nq) (fun _ _ h => h), (Kept.refl F w).drewN nq⟩

set_option maxHeartbeats 1000000 in
set_option maxRecDepth 100000 in
theorem refRaw_long (F : Nat → Prop) (w : World) (b most : Nat) (S : List UInt8) (s : ByteArray) (hm : most ≤ 9223372036854775807) (hS : S.length + s.size ≤ 140737488355328) (hl : (most : Int) - S.length < s.size) (h : WAt 75 F w b most (.int .i64 0) S) :
    Calls Tryd.prog 39 #[.pointer (some ⟨b, 0, none⟩), .string s] w fun e w' => e = .returned (.tuple #[]) ∧ WAt 75 F w' b most (.int .i64 11) S ∧ Kept F w w' := by
  have H := hide h
  have EW : Hid (wrongE 0 11 = 11) := rfl
  obtain ⟨ao, cap, hf, hc⟩ := h
  obtain ⟨h0, h1, h2, f0, f1, f2⟩ := hc.cell
  have hS' : S.length ≤ 9223372036854775807 := by omega
  have hs' : s.size ≤ 9223372036854775807 := by omega
  clear hc hf
  go_enter Tryd.func39, Tryd.ntmps39
  go_wp2
  go_quiet (fail)
  go_wp2_with fail
  refine (wrong_any F _ b most 0 11 S (H.out.kept ((Kept.refl (fun _ => False) _).drewN nq) (fun _ _ h => h))).mono ?_
  rintro e w1 ⟨rfl, x1, k1⟩
  rw [EW.out] at x1
  have X1 := hide x1
  obtain ⟨ao1, cap1, hf1, hc1⟩ := x1
  obtain ⟨g0, g1, g2, _⟩ := hc1.cell
  have K1 := hide k1
  clear hf1 hc1 k1 g0 g1
  go_wp2
  go_end0
  exact ⟨rfl, X1.out, ((Kept.refl F w).drewN nq).trans K1.out⟩

set_option maxHeartbeats 1000000 in
set_option maxRecDepth 100000 in
theorem refRaw_fits (F : Nat → Prop) (w : World) (b most : Nat) (S : List UInt8) (s : ByteArray) (hm : most ≤ 9223372036854775807) (hS : S.length + s.size ≤ 140737488355328) (hl : (s.size : Int) ≤ most - S.length) (h : WAt 75 F w b most (.int .i64 0) S) :
    Calls Tryd.prog 39 #[.pointer (some ⟨b, 0, none⟩), .string s] w fun e w' => e = .returned (.tuple #[]) ∧ WAt 75 (fun k => F k ∨ w.heap.size ≤ k) w' b most (.int .i64 0) (S ++ s.data.toList) ∧ Kept F w w' := by
  obtain ⟨ao, cap, hf, hc⟩ := h
  obtain ⟨h0, h1, h2, f0, f1, f2⟩ := hc.cell
  have hS' : S.length ≤ 9223372036854775807 := by omega
  have hown := hc.2
  have HC : Hid (CW 75 w b ao cap most (.int .i64 0) S) := hc
  have hbl : b < w.heap.size := lt_of_block hc.1
  have hbn : some b ≠ Value.ownBlock (.slice ao S.length cap) := by
    intro e
    cases ao with
    | none => cases e
    | some a => simp only [Value.ownBlock, Option.some.injEq] at e; exact hc.apart (by decide) a rfl e.symm
  clear hc
  obtain ⟨i0, hi, hz0, hz1, hz2⟩ := info_parts Tryd.info5
  go_enter Tryd.func39, Tryd.ntmps39
  go_wp2
  go_quiet (fail)
  have HO : Hid (w.ownsRow 0 5 1 (.slice ao S.length cap) S.length (cellsOf S)) := hown
  clear hown
  go_wp2_with (at_builtin; refine wpList_append_str _ rfl (.tmp 28) (.tmp 29) 65 9 rfl 0 5 i0 Tryd.underlying65 Tryd.underlying9 hi hz0 hz1 hz2 ao S.length cap (cellsOf S) rfl HO.out s rfl (by unfold maxLen; omega) hS (Nat.zero_le _) ?_; intro ao' k' cap' w1 hown1 hgrow1 hn1; have hc1 := cell_grown hgrow1 (b := b) hbl hbn 0 h0; have hf1 := frozen_grown hgrow1 (b := b) hbl hbn 0 f0; have HO1 := hide hown1; have HG1 := hide hgrow1; have HN1 := hide hn1; clear hown1 hgrow1 hn1)
  go_end0
  exact ⟨rfl, put_atT 75 (by decide) F w w1 b ao ao' cap cap' k' most _ S s nq hf HC.out HO1.out HG1.out HN1.out⟩

theorem refRaw_any (F : Nat → Prop) (w : World) (b most : Nat) (E : Int) (S : List UInt8) (s : ByteArray) (hm : most ≤ 9223372036854775807) (hS : S.length + s.size ≤ 140737488355328) (h : WAt 75 F w b most (.int .i64 E) S) :
    Calls Tryd.prog 39 #[.pointer (some ⟨b, 0, none⟩), .string s] w fun e w' => e = .returned (.tuple #[]) ∧ WAt 75 (fun k => F k ∨ w.heap.size ≤ k) w' b most (.int .i64 (refP most E S s.data.toList 0).1) (refP most E S s.data.toList 0).2 ∧ Kept F w w' := by
  have hsz : s.data.toList.length = s.size := by simp
  by_cases hE : E = 0
  · subst hE
    by_cases hl : most < S.length + s.size
    · rw [refP_long (by omega)]
      refine (refRaw_long F w b most S s hm hS (by omega) h).mono ?_
      rintro e w' ⟨rfl, h1, h2⟩
      exact ⟨rfl, h1.mono (fun k hk _ => .inl hk), h2⟩
    · rw [refP_fits (by omega)]
      exact refRaw_fits F w b most S s hm hS (by omega) h
  · rw [refP_kept hE]
    refine (refRaw_kept F w b most E S s hm hS hE h).mono ?_
    rintro e w' ⟨rfl, h1, h2⟩
    exact ⟨rfl, h1.mono (fun k hk _ => .inl hk), h2⟩

theorem wrong_refP (most : Nat) (E c : Int) (S s : List UInt8) (hc : c ≠ 0) : refP most E S s c = (wrongE E c, S) := by
  unfold refP wrongE
  by_cases hE : E = 0
  · simp [hE, hc]
  · simp [hE]

set_option maxRecDepth 100000 in
theorem refNum_any (F : Nat → Prop) (w : World) (b most : Nat) (E : Int) (S : List UInt8) (s n : Int) (hn : n ≤ 9223372036854775807) (hm : most ≤ 9223372036854775807) (hS : S.length + 8 ≤ 140737488355328) (h : WAt 75 F w b most (.int .i64 E) S) :
    Calls Tryd.prog 37 #[.pointer (some ⟨b, 0, none⟩), .int .i64 s, .int .i64 n] w fun e w' => e = .returned (.tuple #[]) ∧ WAt 75 (fun k => F k ∨ w.heap.size ≤ k) w' b most (.int .i64 (refP most E S (numS s n) (numC s n)).1) (refP most E S (numS s n) (numC s n)).2 ∧ Kept F w w' := by
  have H := hide h
  clear h
  by_cases ho : okB s n = true
  · obtain ⟨o1, o2, o3⟩ := okB_true.1 ho
    obtain ⟨e1, e2⟩ := num_yes o1 o2 o3
    have hl : (str (be s.toNat n.toNat)).size ≤ 8 := by rw [str_size, be_length]; omega
    rw [e1, e2]
    have HL : Hid ((str (be s.toNat n.toNat)).data.toList = be s.toNat n.toNat) := str_toList _
    have HE := hide ho
    have HO := hide o3
    clear e1 e2 ho o3
    go_enter Tryd.func37, Tryd.ntmps37
    go_wp2_with fail
    refine (refFits_any s n hn _).mono ?_
    rintro e w1 ⟨rfl, h1⟩
    subst h1
    rw [HE.out]
    go_wp2_with fail
    refine (by_any n s o1 o2 HO.out _).mono ?_
    rintro e w2 ⟨rfl, hb⟩
    have HB := hide hb
    clear hb
    go_wp2_with fail
    refine (refRaw_any F w2 b most E S _ hm (by omega) (H.out.below HB.out)).mono ?_
    rintro e w3 ⟨rfl, h3, k3⟩
    rw [HL.out] at h3
    have X3 := hide h3
    have K3 := hide k3
    clear h3 k3
    go_wp2
    go_end0
    exact ⟨rfl, two_steps HB.out X3.out K3.out⟩
  · have hob : okB s n = false := by simpa using ho
    obtain ⟨e1, e2⟩ := num_no (s := s) (n := n) (fun h => ho (okB_true.2 h))
    rw [e1, e2, wrong_refP most E 10 S [] (by decide)]
    have HE := hide hob
    clear e1 e2 ho hob
    go_enter Tryd.func37, Tryd.ntmps37
    go_wp2_with fail
    refine (refFits_any s n hn _).mono ?_
    rintro e w1 ⟨rfl, h1⟩
    subst h1
    rw [HE.out]
    go_wp2_with fail
    refine (wrong_any F _ b most E 10 S H.out).mono ?_
    rintro e w3 ⟨rfl, h3, k3⟩
    have X3 := hide h3
    have K3 := hide k3
    clear h3 k3
    go_wp2
    exact bodyPost_ret (results_none Tryd.results37 _ _ _) rfl ⟨rfl, X3.out.mono (fun k hk _ => .inl hk), K3.out⟩

set_option maxRecDepth 100000 in
theorem refText_any (F : Nat → Prop) (w : World) (b most : Nat) (E : Int) (S : List UInt8) (s : ByteArray) (hm : most ≤ 9223372036854775807) (hS : S.length + s.size + 2 ≤ 140737488355328) (h : WAt 75 F w b most (.int .i64 E) S) :
    Calls Tryd.prog 38 #[.pointer (some ⟨b, 0, none⟩), .string s] w fun e w' => e = .returned (.tuple #[]) ∧ WAt 75 (fun k => F k ∨ w.heap.size ≤ k) w' b most (.int .i64 (refP most E S (textS s.data.toList) (textC s.data.toList)).1) (refP most E S (textS s.data.toList) (textC s.data.toList)).2 ∧ Kept F w w' := by
  have H := hide h
  have hl : s.data.toList.length = s.size := by simp
  clear h
  by_cases hL : 65535 < s.size
  · have e1 : textC s.data.toList = 11 := by simp only [textC, hl, if_pos hL]
    have e2 : textS s.data.toList = [] := by simp only [textS, hl, if_pos hL]
    rw [e1, e2, wrong_refP most E 11 S [] (by decide)]
    have hs' : s.size ≤ 9223372036854775807 := by omega
    clear e1 e2 hl
    go_enter Tryd.func38, Tryd.ntmps38
    go_wp2_with fail
    refine (wrong_any F _ b most E 11 S H.out).mono ?_
    rintro e w3 ⟨rfl, h3, k3⟩
    have X3 := hide h3
    have K3 := hide k3
    clear h3 k3
    go_wp2
    exact bodyPost_ret (results_none Tryd.results38 _ _ _) rfl ⟨rfl, X3.out.mono (fun k hk _ => .inl hk), K3.out⟩
  · have e1 : textC s.data.toList = 0 := by simp only [textC, hl, if_neg hL]
    have e2 : textS s.data.toList = be 2 s.size ++ s.data.toList := by simp only [textS, hl, if_neg hL]
    rw [e1, e2]
    have hbl : (str (be 2 s.size)).size = 2 := by rw [str_size, be_length]
    have HA : Hid ((str (be 2 s.size) ++ s).data.toList = be 2 s.size ++ s.data.toList) := by rw [str_append, str_toList]; rfl
    have hsum : (str (be 2 s.size) ++ s).size ≤ s.size + 2 := by simp [hbl]; omega
    have hs' : s.size ≤ 9223372036854775807 := by omega
    clear e1 e2 hl
    go_enter Tryd.func38, Tryd.ntmps38
    go_wp2_with fail
    refine (by_2 s.size (by omega) _).mono ?_
    rintro e w2 ⟨rfl, hb⟩
    have HB := hide hb
    clear hb
    go_wp2_with fail
    refine (refRaw_any F w2 b most E S (str (be 2 s.size) ++ s) hm (by omega) (H.out.below HB.out)).mono ?_
    rintro e w3 ⟨rfl, h3, k3⟩
    rw [HA.out] at h3
    have X3 := hide h3
    have K3 := hide k3
    clear h3 k3
    go_wp2
    go_end0
    exact ⟨rfl, two_steps HB.out X3.out K3.out⟩

theorem ret_done {a b : ByteArray} {c : Int} (h : a = b) : Ending.returned (.tuple #[.string a, .int .i64 c]) = .returned (.tuple #[.string b, .int .i64 c]) := by rw [h]
set_option maxRecDepth 100000 in
theorem refDone_any (F : Nat → Prop) (w : World) (b most : Nat) (E : Int) (S : List UInt8) (h : WAt 75 F w b most (.int .i64 E) S) :
    Calls Tryd.prog 40 #[.pointer (some ⟨b, 0, none⟩)] w fun e w' => e = .returned (.tuple #[.string (str (doneS E S)), .int .i64 E]) ∧ Below w.heap.size w w' := by
  obtain ⟨ao, cap, hf, hc⟩ := h
  obtain ⟨h0, h1, h2, f0, f1, f2⟩ := hc.cell
  have hcv := conv_own w ao cap S hc.2
  clear hc hf
  by_cases hE : E = 0
  · subst hE
    have e : doneS 0 S = S := by simp [doneS]
    rw [e]
    clear e
    go_enter Tryd.func40, Tryd.ntmps40
    go_wp2
    go_ret2
    exact ⟨rfl, Below.refl _ _⟩
  · have e : doneS E S = [] := by simp [doneS, hE]
    have hb : (E != 0) = true := by simpa using hE
    rw [e]
    clear e hE hcv
    go_enter Tryd.func40, Tryd.ntmps40
    go_wp2
    go_quiet (fail)
    go_wp2
    go_ret2
    exact ⟨rfl, ⟨rfl, rfl, rfl, Nat.le_refl _, fun _ _ => rfl⟩⟩
end Go.Proofs.YtonoobjpafhogaaDoor
