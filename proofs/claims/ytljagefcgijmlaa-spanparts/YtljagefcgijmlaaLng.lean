/-
  The document's longer and wants by their contracts. Condition: the span lies behind the set.
-/
import Derived.Test.YtljagefcgijmlaaPlc
namespace Go.Proofs.Ytljagefcgijmlaa
open Go.RowKit Go.Lib

theorem grown_fin {w W : World} {base : Nat} {v : Value} {A : List Spn} {s : Spn} (hW : Below w.heap.size w W) (_ho : OwnS W base v A) : ∀ v' w8, w8.ownsRow base 46 2 v' (A.length + 1) (spCells A ++ [.int .i64 s.1, .int .i64 s.2]) → W.grownBy w8 v.ownBlock → (v'.ownBlock = v.ownBlock ∨ v'.ownBlock = some W.heap.size) →
    OwnS w8 base v' (A ++ [s]) ∧ Kept (isRow v) w w8 ∧ (v'.ownBlock = v.ownBlock ∨ ∃ k, v'.ownBlock = some k ∧ w.heap.size ≤ k) := by
  intro v' w8 h1 h2 h3
  refine ⟨?_, (Kept.of_below hW).grown h2 (fun k hk => hk), ?_⟩
  · unfold OwnS
    rw [spCells_snoc, List.length_append]
    simpa using h1
  · rcases h3 with h | h
    · exact .inl h
    · exact .inr ⟨_, h, hW.size⟩
theorem joinL_far {A : List Spn} {s : Spn} (h : ∀ B z, A = B ++ [z] → z.2 + 1 < s.1) : joinL A s = A ++ [s] := by
  rcases List.eq_nil_or_concat A with rfl | ⟨B, z, rfl⟩
  · rfl
  · simp only [List.concat_eq_append] at *
    rw [joinL_last, if_pos (by have := h B z rfl; omega)]
theorem joinL_near {B : List Spn} {z s : Spn} (h : z.2 + 1 = s.1) (hs : s.1 ≤ s.2) : joinL (B ++ [z]) s = B ++ [(z.1, s.2)] := by
  rw [joinL_last, if_neg (by omega), show max z.2 s.2 = s.2 by omega]

set_option maxRecDepth 100000 in
set_option maxHeartbeats 2000000 in
theorem longer_any (w : World) (base : Nat) (v : Value) (A : List Spn) (s : Spn) (hown : OwnS w base v A) (hb : base ≤ w.heap.size) (hl : A.length + 1 ≤ 8796093022208) (hs : s.1 ≤ s.2)
    (hA : ∀ B z, A = B ++ [z] → 0 ≤ z.2 ∧ z.2 ≤ 4294967295 ∧ z.2 < s.1) :
    Calls Try.prog 63 #[v, .agg #[.int .i64 s.1, .int .i64 s.2]] w fun e w' => ∃ v', e = .returned v' ∧ OwnS w' base v' (joinL A s) ∧ Kept (isRow v) w w' ∧ (v'.ownBlock = v.ownBlock ∨ ∃ k, v'.ownBlock = some k ∧ w.heap.size ≤ k) := by
  obtain ⟨i0, hi, hz0, hz1, hz2⟩ := Try.info46'
  obtain ⟨ao, cap, rfl, hat, hao⟩ := hown.shape
  have hWb : Below w.heap.size w (w.alloc (.cells #[.int .i64 s.1, .int .i64 s.2] 46)) := (Below.refl _ _).alloc (Nat.le_refl _) _
  have q1 : (w.alloc (.cells #[.int .i64 s.1, .int .i64 s.2] 46)).cell? ⟨w.heap.size, 0, none⟩ = some (.int .i64 s.1) := by simp
  have q2 : (w.alloc (.cells #[.int .i64 s.1, .int .i64 s.2] 46)).cell? ⟨w.heap.size, 1, none⟩ = some (.int .i64 s.2) := by simp
  have hws : w.heap.size < (w.alloc (.cells #[.int .i64 s.1, .int .i64 s.2] 46)).heap.size := by simp
  have hW0 := hown.below hWb
  go_enter Try.func63, Try.ntmps63
  rcases List.eq_nil_or_concat A with rfl | ⟨B, z, rfl⟩
  · simp only [List.length_nil] at *
    have HO := hide hW0
    have HWB := hide hWb
    clear hat hW0 hown hWb hao
    go_wp2
    generalize w.alloc (.cells #[.int .i64 s.1, .int .i64 s.2] 46) = W at *
    have HD : Hid (Below W.heap.size W W.drew) := (Below.refl _ _).drew
    refine wp_region_quiet (C := fun w' => Below W.heap.size W w') (by kernel_rfl) (by kernel_rfl) HD.out ?_
    refine QW.out (l := _ :: _) ?_
    iterate 3 (refine QW.take (by rfl) ?_; apply Exists.intro; refine ⟨fun w' hw' => ?_, ?_⟩; (· (skip; go_simp; first | done | (first | done | rfl))); try simp only [Act.put, List.setIfInBounds_toArray, List.set_cons_zero, List.set_cons_succ])
    iterate 9 (refine QW.skip (by rfl) ?_; try simp only [Act.put, List.setIfInBounds_toArray, List.set_cons_zero, List.set_cons_succ])
    iterate 1 (refine QW.take (by rfl) ?_; apply Exists.intro; refine ⟨fun w' hw' => ?_, ?_⟩; (· (skip; go_simp; first | done | (first | done | rfl))); try simp only [Act.put, List.setIfInBounds_toArray, List.set_cons_zero, List.set_cons_succ])
    refine QW.nil ?_
    intro w2 x2
    have r1 := (x2.cell (p := ⟨w.heap.size, 0, none⟩) hws).trans q1
    have r2 := (x2.cell (p := ⟨w.heap.size, 1, none⟩) hws).trans q2
    have hb2 := bt HWB.out x2 (Nat.le_refl _)
    have hb3 : Below w.heap.size w (w2.alloc (.cells #[.int .i64 s.1, .int .i64 s.2] 46)) := hb2.alloc hb2.size _
    have ho3 : OwnS (w2.alloc (.cells #[.int .i64 s.1, .int .i64 s.2] 46)) base (.slice ao 0 cap) [] := (HO.out.below x2).below ((Below.refl _ _).alloc (Nat.le_refl _) _)
    have HF := hide (grown_fin (s := s) hb3 ho3)
    have HO3 := hide ho3
    have HB3 := hide hb3
    have HN := hide (new_cells w2 s w2.heap.size rfl)
    clear x2 q1 q2 hb2 hb3 ho3 HD
    go_wp2_with (at_builtin; refine wpList_append_own_at _ rfl (.tmp 29) (.tmp 31) 22 rfl base 46 i0 (.agg #[.int .i64 0, .int .i64 0]) 2 16 Try.underlying22 hi hz0 hz1 hz2 rfl (by decide) _ 0 (spCells ([])) rfl HO3.out ⟨w2.heap.size, 0, none⟩ 1 1 [.int .i64 s.1, .int .i64 s.2] rfl rfl HN.out (by simp [Value.oneCell']) (by unfold maxLen; omega) (by omega) (Nat.le_trans hb HB3.out.size) ?_; intro v8 w8 h1 h2 _ h3; have F8 := hide (HF.out v8 w8 h1 h2 h3); clear h1 h2 h3)
    go_ret
    exact ⟨_, rfl, F8.out⟩
  · simp only [List.concat_eq_append] at *
    obtain ⟨hz3, hz4, hz5⟩ := hA B z rfl
    have hh : (w.alloc (.cells #[.int .i64 s.1, .int .i64 s.2] 46)).ownsRow base 46 2 (.slice ao (B ++ [z]).length cap) (B ++ [z]).length (spCells (B ++ [z])) := hW0
    have hx : ∃ g, ao = some ⟨g, 0, none⟩ ∧ g < w.heap.size := by
      rcases hown.2 with ⟨_, hn⟩ | ⟨g, cap', cur, hv, _, hg, _⟩
      · simp at hn
      · injection hv with e1 e2 e3
        exact ⟨g, e1, lt_of_block hg⟩
    obtain ⟨g, rfl, hg⟩ := hx
    have ha := spCells_get (B ++ [z]) B.length (by simp)
    rw [show (B ++ [z]).getD B.length (0, 0) = z by simp [List.getD_eq_getElem?_getD]] at ha
    have q3 := (hh.cellAt (B.length * 2 + 1) (by simp; omega)).trans ha.2
    have HO := hide hW0
    have HWB := hide hWb
    have HHN := hide hA
    have hgw : g < (w.alloc (.cells #[.int .i64 s.1, .int .i64 s.2] 46)).heap.size := by omega
    rw [List.length_append, List.length_singleton] at hl
    clear hat ha hh hW0 hown hWb hao hA
    simp only [List.length_append, List.length_singleton] at *
    have hi2 : (B.length : Int) < (B.length : Int) + 1 := by omega
    have hlz : ¬ (B.length : Int) < 0 := by omega
    have hlg : (0 : Int) ≤ (B.length : Int) := by omega
    have hlgd : decide ((0 : Int) ≤ (B.length : Int)) = true := decide_eq_true hlg
    have fz : IntKind.i64.wrap (z.2 + 1) = z.2 + 1 := by simp [IntKind.wrap, IntKind.bits, IntKind.signed]; omega
    go_wp2
    generalize w.alloc (.cells #[.int .i64 s.1, .int .i64 s.2] 46) = W at *
    have HD : Hid (Below W.heap.size W W.drew) := (Below.refl _ _).drew
    by_cases hgt : z.2 + 1 = s.1
    · have hgd : (z.2 + 1 == s.1) = true := beq_iff_eq.2 hgt
      have HGT := hide hgt
      clear hgt
      refine wp_region_quiet (C := fun w' => Below W.heap.size W w') (by kernel_rfl) (by kernel_rfl) HD.out ?_
      refine QW.out (l := _ :: _) ?_
      iterate 13 (refine QW.take (by rfl) ?_; apply Exists.intro; refine ⟨fun w' hw' => ?_, ?_⟩; (· (have g1 := (hw'.cell (p := ⟨w.heap.size, 0, none⟩) hws).trans q1; have g3 := (hw'.cell (p := ⟨g, B.length * 2 + 1, none⟩) hgw).trans q3; go_simp; first | done | ((try simp only [hlgd, fz, hgd]); first | done | rfl))); try simp only [Act.put, List.setIfInBounds_toArray, List.set_cons_zero, List.set_cons_succ])
      refine QW.nil ?_
      intro w2 x2
      have r2 := (x2.cell (p := ⟨w.heap.size, 1, none⟩) hws).trans q2
      have r3 := (x2.cell (p := ⟨g, B.length * 2 + 1, none⟩) hgw).trans q3
      have hb2 := bt HWB.out x2 (Nat.le_refl _)
      have ho2 : w2.ownsRow base 46 2 (.slice (some ⟨g, 0, none⟩) (B.length + 1) cap) (B.length + 1) (spCells (B ++ [z])) := by have := HO.out.below x2; unfold OwnS at this; simpa using this
      have f3 := ho2.frozenAt (B.length * 2 + 1)
      obtain ⟨s1, s2⟩ := ho2.stored (B.length * 2 + 1) (.int .i64 s.2)
      rw [spCells_setLast] at s1
      have S1 := hide s1
      have S2 := hide s2
      have HB2 := hide hb2
      clear x2 q1 q2 q3 hb2 ho2 s1 s2 HD
      go_wp2
      go_ret
      refine ⟨_, rfl, ?_, (Kept.of_below HB2.out).grown S2.out (fun k hk => hk), .inl rfl⟩
      rw [joinL_near HGT.out hs]
      unfold OwnS
      rw [List.length_append, List.length_singleton]
      exact S1.out
    · have hgd : (z.2 + 1 == s.1) = false := beq_eq_false_iff_ne.2 hgt
      have HJ : Hid (joinL (B ++ [z]) s = (B ++ [z]) ++ [s]) := joinL_far (fun B' z' e => by have := HHN.out B' z' e; have h2 := List.append_inj' e rfl; have h3 := List.cons.inj h2.2; rw [← h3.1]; omega)
      clear hgt
      refine wp_region_quiet (C := fun w' => Below W.heap.size W w') (by kernel_rfl) (by kernel_rfl) HD.out ?_
      refine QW.out (l := _ :: _) ?_
      iterate 13 (refine QW.take (by rfl) ?_; apply Exists.intro; refine ⟨fun w' hw' => ?_, ?_⟩; (· (have g1 := (hw'.cell (p := ⟨w.heap.size, 0, none⟩) hws).trans q1; have g3 := (hw'.cell (p := ⟨g, B.length * 2 + 1, none⟩) hgw).trans q3; go_simp; first | done | ((try simp only [hlgd, fz, hgd]); first | done | rfl))); try simp only [Act.put, List.setIfInBounds_toArray, List.set_cons_zero, List.set_cons_succ])
      refine QW.nil ?_
      intro w2 x2
      have r1 := (x2.cell (p := ⟨w.heap.size, 0, none⟩) hws).trans q1
      have r2 := (x2.cell (p := ⟨w.heap.size, 1, none⟩) hws).trans q2
      have hb2 := bt HWB.out x2 (Nat.le_refl _)
      have hb3 : Below w.heap.size w (w2.alloc (.cells #[.int .i64 s.1, .int .i64 s.2] 46)) := hb2.alloc hb2.size _
      have ho3 : OwnS (w2.alloc (.cells #[.int .i64 s.1, .int .i64 s.2] 46)) base (.slice (some ⟨g, 0, none⟩) (B.length + 1) cap) (B ++ [z]) := (HO.out.below x2).below ((Below.refl _ _).alloc (Nat.le_refl _) _)
      have hf3 := grown_fin (s := s) hb3 ho3
      have ho4 : (w2.alloc (.cells #[.int .i64 s.1, .int .i64 s.2] 46)).ownsRow base 46 2 (.slice (some ⟨g, 0, none⟩) (B.length + 1) cap) (B.length + 1) (spCells (B ++ [z])) := by have := ho3; unfold OwnS at this; simpa using this
      rw [List.length_append, List.length_singleton] at hf3
      have HF := hide hf3
      have HO3 := hide ho4
      have HB3 := hide hb3
      have HN := hide (new_cells w2 s w2.heap.size rfl)
      clear x2 q1 q2 q3 hb2 hb3 ho3 ho4 hf3 HD
      go_wp2_with (at_builtin; refine wpList_append_own_at _ rfl (.tmp 29) (.tmp 31) 22 rfl base 46 i0 (.agg #[.int .i64 0, .int .i64 0]) 2 16 Try.underlying22 hi hz0 hz1 hz2 rfl (by decide) _ (B.length + 1) (spCells (B ++ [z])) rfl HO3.out ⟨w2.heap.size, 0, none⟩ 1 1 [.int .i64 s.1, .int .i64 s.2] rfl rfl HN.out (by simp [Value.oneCell']) (by unfold maxLen; omega) (by omega) (Nat.le_trans hb HB3.out.size) ?_; intro v8 w8 h1 h2 _ h3; have F8 := hide (HF.out v8 w8 h1 h2 h3); clear h1 h2 h3)
      go_ret
      exact ⟨_, rfl, by rw [HJ.out]; exact F8.out.1, F8.out.2⟩
/-- What is wanted. -/
def fOp (op : Nat) (l : List Bool) : Bool := if op = 0 then fOr l else if op = 1 then fAnd l else fSub l
theorem wants_any (op : Nat) (hop : op < 3) (x y : Bool) (w : World) : Calls Try.prog 62 #[.int .i64 op, .bool x, .bool y] w fun e w' => e = .returned (.bool (fOp op [x, y])) ∧ w' = w := by
  match op, hop with
  | 0, _ => cases x <;> cases y <;> (go_enter Try.func62, Try.ntmps62; go_wp2; go_ret; exact ⟨rfl, rfl⟩)
  | 1, _ => cases x <;> cases y <;> (go_enter Try.func62, Try.ntmps62; go_wp2; go_ret; exact ⟨rfl, rfl⟩)
  | 2, _ => cases x <;> cases y <;> (go_enter Try.func62, Try.ntmps62; go_wp2; go_ret; exact ⟨rfl, rfl⟩)
end Go.Proofs.Ytljagefcgijmlaa
