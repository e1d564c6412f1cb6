/-
  joined, the comparison, slices.Clone, slices.SortFunc and Make by their contracts. Condition: a list is no longer than a process can hold.
-/
import Derived.Test.YthgikaklcglpiaaGreatDoorP03
import Derived.Test.YthgikaklcglpiaaGreatDoorP38
import Derived.Shelf.SlSortCmp.NoneTotal
import Derived.Laws.OwnMore
import Derived.OwnWalk
import Derived.Maps.AppendAt
import Derived.Deep.RegionHeld3
namespace Go.Proofs.YthgikaklcglpiaaGreatDoor.L5
open Go.RowKit Go.Lib Go.Sort Go.Shelf

/-- A list's cells. -/
def spCells (L : List Spn) : List Value := L.flatMap fun s => [.int .i64 s.1, .int .i64 s.2]
theorem spCells_cons (s : Spn) (L : List Spn) : spCells (s :: L) = .int .i64 s.1 :: .int .i64 s.2 :: spCells L := rfl
theorem spCells_append (L M : List Spn) : spCells (L ++ M) = spCells L ++ spCells M := by simp [spCells]
theorem spCells_length (L : List Spn) : (spCells L).length = L.length * 2 := by
  induction L with
  | nil => rfl
  | cons s L ih => simp only [spCells_cons, List.length_cons, ih]; omega
theorem spCells_get (L : List Spn) : ∀ i, i < L.length → (spCells L)[i * 2]? = some (.int .i64 (L.getD i (0, 0)).1) ∧ (spCells L)[i * 2 + 1]? = some (.int .i64 (L.getD i (0, 0)).2) := by
  induction L with
  | nil => intro i hi; simp at hi
  | cons s L ih =>
    intro i hi
    cases i with
    | zero => simp [spCells_cons]
    | succ i =>
      have := ih i (by simpa using hi)
      rw [show (i + 1) * 2 = i * 2 + 1 + 1 by omega]
      simp only [spCells_cons, List.getElem?_cons_succ, List.getD_cons_succ]
      exact this
theorem spCells_one (L : List Spn) : ∀ u ∈ spCells L, u.oneCell' = true := by
  intro u hu
  simp only [spCells, List.mem_flatMap, List.mem_cons, List.not_mem_nil, or_false] at hu
  obtain ⟨s, _, rfl | rfl⟩ := hu <;> rfl
/-- A list of the call's own. -/
def OwnS (w : World) (base : Nat) (v : Value) (L : List Spn) : Prop := w.ownsRow base 75 2 v L.length (spCells L)
theorem OwnS.nil (w : World) (base : Nat) : OwnS w base (.slice none 0 0) [] := World.ownsRow_nil w base 75 2
theorem OwnS.shape {w : World} {base : Nat} {v : Value} {L : List Spn} (h : OwnS w base v L) : ∃ ao cap, v = .slice ao L.length cap ∧ SpAt w ao L ∧ (∀ a, ao = some a → base ≤ a.block ∧ a.block < w.heap.size) := by
  have hh : w.ownsRow base 75 2 v L.length (spCells L) := h
  rcases hh.2 with ⟨rfl, hn⟩ | ⟨g, cap, cur, rfl, hb, hg, r⟩
  · exact ⟨none, 0, by rw [hn], .inl (List.length_eq_zero_iff.1 hn), fun a ha => by cases ha⟩
  · refine ⟨_, cap, rfl, ?_, fun a ha => by cases ha; exact ⟨hb, lt_of_block hg⟩⟩
    refine .inr ⟨g, 0, rfl, lt_of_block hg, fun i hi => ?_⟩
    have := spCells_get L i hi
    rw [Nat.zero_add]
    exact ⟨(World.ownsRow.cellAt hh (i * 2) (by omega)).trans this.1, (World.ownsRow.cellAt hh (i * 2 + 1) (by omega)).trans this.2⟩
theorem OwnS.kept {F : Nat → Prop} {w w' : World} {base : Nat} {v : Value} {L : List Spn} (h : OwnS w base v L) (hk : Kept F w w') (hF : ∀ k, v.ownBlock = some k → ¬ F k) : OwnS w' base v L := by
  refine ⟨h.1, ?_⟩
  rcases h.2 with hn | ⟨g, cap, cur, rfl, hb, hg, r⟩
  · exact .inl hn
  · exact .inr ⟨g, cap, cur, rfl, hb, (hk.block g (lt_of_block hg) (hF g rfl)).trans hg, r⟩
theorem OwnS.below {w w' : World} {base : Nat} {v : Value} {L : List Spn} (h : OwnS w base v L) (hb : Below w.heap.size w w') : OwnS w' base v L :=
  h.kept (F := fun _ => False) (Kept.of_below hb) (fun _ _ h => h)
theorem OwnS.mono {w : World} {base base' : Nat} {v : Value} {L : List Spn} (h : OwnS w base v L) (hb : base' ≤ base) : OwnS w base' v L := by
  refine ⟨h.1, ?_⟩
  rcases h.2 with hn | ⟨g, cap, cur, rfl, hb', r⟩
  · exact .inl hn
  · exact .inr ⟨g, cap, cur, rfl, Nat.le_trans hb hb', r⟩
theorem OwnS.lt {w : World} {base : Nat} {v : Value} {L : List Spn} (h : OwnS w base v L) : ∀ k, v.ownBlock = some k → base ≤ k ∧ k < w.heap.size := World.ownsRow.lt h

theorem Tryz.info59 : (Tryz.prog.info? 75).map (fun i => (i.zero, i.size, i.bytes)) = some (some (.agg #[.int .i64 0, .int .i64 0]), 2, 16) := by kernel_rfl

theorem new_cells (w0 : World) (s : Spn) (b : Nat) (hb : b = w0.heap.size) : ∀ j u, ([.int .i64 s.1, .int .i64 s.2] : List Value)[j]? = some u → (w0.alloc (.cells #[.int .i64 s.1, .int .i64 s.2] 75)).cell? ((⟨b, 0, none⟩ : Addr).add j) = some u := by
  subst hb
  intro j u hu
  match j, hu with
  | 0, hu => simp at hu; subst hu; simp [Addr.add]
  | 1, hu => simp at hu; subst hu; simp [Addr.add]
theorem spCells_snoc (A : List Spn) (s : Spn) : spCells (A ++ [s]) = spCells A ++ [.int .i64 s.1, .int .i64 s.2] := by rw [spCells_append]; rfl
/-- What joined may have turned: the list's own block. -/
def isRow (v : Value) (k : Nat) : Prop := v.ownBlock = some k

theorem spCells_setLast (B : List Spn) (z : Spn) (m : Int) : (spCells (B ++ [z])).set (B.length * 2 + 1) (.int .i64 m) = spCells (B ++ [(z.1, m)]) := by
  rw [spCells_append, spCells_append, List.set_append_right _ _ (by rw [spCells_length]; omega), spCells_length]
  rw [show B.length * 2 + 1 - B.length * 2 = 1 by omega]
  rfl

set_option maxRecDepth 100000 in
set_option maxHeartbeats 2000000 in
theorem joined_any (w : World) (base : Nat) (v : Value) (A : List Spn) (s : Spn) (hown : OwnS w base v A) (hb : base ≤ w.heap.size) (hl : A.length + 1 ≤ 8796093022208)
    (hA : ∀ B z, A = B ++ [z] → 0 ≤ z.2 ∧ z.2 ≤ 4294967295) :
    Calls Tryz.prog 225 #[v, .agg #[.int .i64 s.1, .int .i64 s.2]] w fun e w' => ∃ v', e = .returned v' ∧ OwnS w' base v' (joinL A s) ∧ Kept (isRow v) w w' ∧ (v'.ownBlock = v.ownBlock ∨ ∃ k, v'.ownBlock = some k ∧ w.heap.size ≤ k) := by
  obtain ⟨i0, hi, hz⟩ : ∃ i, Tryz.prog.info? 75 = some i ∧ (i.zero, i.size, i.bytes) = (some (.agg #[.int .i64 0, .int .i64 0]), 2, 16) := by
    have := Tryz.info59
    cases h : Tryz.prog.info? 75 with
    | none => rw [h] at this; simp at this
    | some i => rw [h] at this; exact ⟨i, rfl, Option.some.inj this⟩
  simp only [Prod.mk.injEq] at hz
  obtain ⟨hz0, hz1, hz2⟩ := hz
  obtain ⟨ao, cap, rfl, hat, hao⟩ := hown.shape
  have hh : w.ownsRow base 75 2 (.slice ao A.length cap) A.length (spCells A) := hown
  have HO := hide hown
  have HA := hide hA
  clear hown hA hao
  go_enter Tryz.func225, Tryz.ntmps225
  rcases List.eq_nil_or_concat A with rfl | ⟨B, z, rfl⟩
  · clear hat hh
    simp only [List.length_nil] at *
    go_wp2
    generalize hW : w.alloc (.cells #[.int .i64 s.1, .int .i64 s.2] 75) = W
    have q1 : W.cell? ⟨w.heap.size, 0, none⟩ = some (.int .i64 s.1) := by rw [← hW]; simp
    have q2 : W.cell? ⟨w.heap.size, 1, none⟩ = some (.int .i64 s.2) := by rw [← hW]; simp
    have hwb : Below w.heap.size w W := by rw [← hW]; exact (Below.refl _ _).alloc (Nat.le_refl _) _
    have hws : w.heap.size < W.heap.size := by rw [← hW]; simp
    have HD : Hid (Below W.heap.size W W.drew) := (Below.refl _ _).drew
    clear hW
    refine wp_region_quiet (C := fun w' => Below W.heap.size W w') (by kernel_rfl) (by kernel_rfl) HD.out ?_
    refine QW.out (l := _ :: _) ?_
    iterate 3 (refine QW.take (by rfl) ?_; apply Exists.intro; refine ⟨fun w' hw' => ?_, ?_⟩; (· (have g1 := (hw'.cell (p := ⟨w.heap.size, 0, none⟩) hws).trans q1; have g2 := (hw'.cell (p := ⟨w.heap.size, 1, none⟩) hws).trans q2; go_simp; first | done | (first | done | rfl))); try simp only [Act.put, List.setIfInBounds_toArray, List.set_cons_zero, List.set_cons_succ])
    iterate 9 (refine QW.skip (by rfl) ?_; try simp only [Act.put, List.setIfInBounds_toArray, List.set_cons_zero, List.set_cons_succ])
    iterate 1 (refine QW.take (by rfl) ?_; apply Exists.intro; refine ⟨fun w' hw' => ?_, ?_⟩; (· (have g1 := (hw'.cell (p := ⟨w.heap.size, 0, none⟩) hws).trans q1; have g2 := (hw'.cell (p := ⟨w.heap.size, 1, none⟩) hws).trans q2; go_simp; first | done | (first | done | rfl))); try simp only [Act.put, List.setIfInBounds_toArray, List.set_cons_zero, List.set_cons_succ])
    refine QW.nil ?_
    intro w2 x2
    clear HD
    have r1 := (x2.cell (p := ⟨w.heap.size, 0, none⟩) hws).trans q1
    have r2 := (x2.cell (p := ⟨w.heap.size, 1, none⟩) hws).trans q2
    have hb2 : Below w.heap.size w w2 := hwb.trans (x2.mono (Nat.le_of_lt hws))
    have hb3 : Below w.heap.size w (w2.alloc (.cells #[.int .i64 s.1, .int .i64 s.2] 75)) := hb2.alloc hb2.size _
    have HB3 := hide hb3
    have HN := hide (new_cells w2 s w2.heap.size rfl)
    have HO3 := hide (HO.out.below hb3)
    have hbs : base ≤ (w2.alloc (.cells #[.int .i64 s.1, .int .i64 s.2] 75)).heap.size := by have := hb3.size; omega
    have HBS := hide hbs
    have HF : Hid (∀ v' w8, w8.ownsRow base 75 2 v' (0 + 1) (spCells ([]) ++ [.int .i64 s.1, .int .i64 s.2]) → World.grownBy (w2.alloc (.cells #[.int .i64 s.1, .int .i64 s.2] 75)) w8 (Value.ownBlock (.slice ao 0 cap)) → (v'.ownBlock = Value.ownBlock (.slice ao 0 cap) ∨ v'.ownBlock = some (w2.alloc (.cells #[.int .i64 s.1, .int .i64 s.2] 75)).heap.size) →
        OwnS w8 base v' (([]) ++ [s]) ∧ Kept (isRow (.slice ao 0 cap)) w w8 ∧ (v'.ownBlock = Value.ownBlock (.slice ao 0 cap) ∨ ∃ k, v'.ownBlock = some k ∧ w.heap.size ≤ k)) := by
      intro v' w8 h1 h2 h3
      refine ⟨?_, (Kept.of_below HB3.out).grown h2 (fun k hk => hk), ?_⟩
      · unfold OwnS
        rw [spCells_snoc, List.length_append]
        simpa using h1
      · rcases h3 with h | h
        · exact .inl h
        · exact .inr ⟨_, h, HB3.out.size⟩
    clear x2 q1 q2 hb2 hb3 hbs hwb hws
    go_wp2_with (at_builtin; refine wpList_append_own_at _ rfl (.tmp 22) (.tmp 24) 23 rfl base 75 i0 (.agg #[.int .i64 0, .int .i64 0]) 2 16 Tryz.underlying23 hi hz0 hz1 hz2 rfl (by decide) _ 0 (spCells ([])) rfl HO3.out ⟨w2.heap.size, 0, none⟩ 1 1 [.int .i64 s.1, .int .i64 s.2] rfl rfl HN.out (by simp [Value.oneCell']) (by unfold maxLen; omega) (by omega) HBS.out ?_; intro v8 w8 h1 h2 _ h3; have F8 := hide (HF.out v8 w8 h1 h2 h3); clear h1 h2 h3)
    go_ret
    exact ⟨_, rfl, F8.out⟩
  · simp only [List.concat_eq_append] at *
    obtain ⟨hz3, hz4⟩ := HA.out B z rfl
    rw [List.length_append, List.length_singleton] at hl hh
    have hx : ∃ g, ao = some ⟨g, 0, none⟩ ∧ g < w.heap.size := by
      rcases hh.2 with ⟨_, hn⟩ | ⟨g, cap', cur, hv, _, hg, _⟩
      · omega
      · injection hv with e1 e2 e3
        exact ⟨g, e1, lt_of_block hg⟩
    obtain ⟨g, rfl, hg⟩ := hx
    have ha := spCells_get (B ++ [z]) B.length (by simp)
    rw [show (B ++ [z]).getD B.length (0, 0) = z by simp [List.getD_eq_getElem?_getD]] at ha
    have c2 := (hh.cellAt (B.length * 2 + 1) (by omega)).trans ha.2
    have HH := hide hh
    clear hh hat ha
    simp only [List.length_append, List.length_singleton] at *
    have hlz : decide ((B.length : Int) < 0) = false := decide_eq_false (by omega)
    have hi2 : (B.length : Int) < (B.length : Int) + 1 := by omega
    have fz : IntKind.i64.wrap (z.2 + 1) = z.2 + 1 := by simp [IntKind.wrap, IntKind.bits, IntKind.signed]; omega
    go_wp2
    generalize hW : w.alloc (.cells #[.int .i64 s.1, .int .i64 s.2] 75) = W
    have q1 : W.cell? ⟨w.heap.size, 0, none⟩ = some (.int .i64 s.1) := by rw [← hW]; simp
    have q2 : W.cell? ⟨w.heap.size, 1, none⟩ = some (.int .i64 s.2) := by rw [← hW]; simp
    have hwb : Below w.heap.size w W := by rw [← hW]; exact (Below.refl _ _).alloc (Nat.le_refl _) _
    have hws : w.heap.size < W.heap.size := by rw [← hW]; simp
    have q3 : W.cell? ⟨g, B.length * 2 + 1, none⟩ = some (.int .i64 z.2) := (hwb.cell (p := ⟨g, _, none⟩) hg).trans c2
    have hgw : g < W.heap.size := by omega
    have HD : Hid (Below W.heap.size W W.drew) := (Below.refl _ _).drew
    clear hW c2
    by_cases hgt : s.1 > z.2 + 1
    · have hgd : decide (z.2 + 1 < s.1) = true := decide_eq_true hgt
      refine wp_region_quiet (C := fun w' => Below W.heap.size W w') (by kernel_rfl) (by kernel_rfl) HD.out ?_
      refine QW.out (l := _ :: _) ?_
      iterate 13 (refine QW.take (by rfl) ?_; apply Exists.intro; refine ⟨fun w' hw' => ?_, ?_⟩; (· (have g1 := (hw'.cell (p := ⟨w.heap.size, 0, none⟩) hws).trans q1; have g2 := (hw'.cell (p := ⟨w.heap.size, 1, none⟩) hws).trans q2; have g3 := (hw'.cell (p := ⟨g, B.length * 2 + 1, none⟩) hgw).trans q3; go_simp; first | done | ((try simp only [hlz, fz, hgd]); first | done | rfl))); try simp only [Act.put, List.setIfInBounds_toArray, List.set_cons_zero, List.set_cons_succ])
      refine QW.nil ?_
      intro w2 x2
      clear HD q3 hgw
      have r1 := (x2.cell (p := ⟨w.heap.size, 0, none⟩) hws).trans q1
      have r2 := (x2.cell (p := ⟨w.heap.size, 1, none⟩) hws).trans q2
      have hb2 : Below w.heap.size w w2 := hwb.trans (x2.mono (Nat.le_of_lt hws))
      have hb3 : Below w.heap.size w (w2.alloc (.cells #[.int .i64 s.1, .int .i64 s.2] 75)) := hb2.alloc hb2.size _
      have HB3 := hide hb3
      have HN := hide (new_cells w2 s w2.heap.size rfl)
      have HO3 : Hid ((w2.alloc (.cells #[.int .i64 s.1, .int .i64 s.2] 75)).ownsRow base 75 2 (.slice (some ⟨g, 0, none⟩) (B.length + 1) cap) (B.length + 1) (spCells (B ++ [z]))) := by have := HO.out.below hb3; unfold OwnS at this; rw [List.length_append, List.length_singleton] at this; exact this
      have hbs : base ≤ (w2.alloc (.cells #[.int .i64 s.1, .int .i64 s.2] 75)).heap.size := by have := hb3.size; omega
      have HBS := hide hbs
      have HF : Hid (∀ v' w8, w8.ownsRow base 75 2 v' ((B.length + 1) + 1) (spCells (B ++ [z]) ++ [.int .i64 s.1, .int .i64 s.2]) → World.grownBy (w2.alloc (.cells #[.int .i64 s.1, .int .i64 s.2] 75)) w8 (Value.ownBlock (.slice (some ⟨g, 0, none⟩) (B.length + 1) cap)) → (v'.ownBlock = Value.ownBlock (.slice (some ⟨g, 0, none⟩) (B.length + 1) cap) ∨ v'.ownBlock = some (w2.alloc (.cells #[.int .i64 s.1, .int .i64 s.2] 75)).heap.size) →
          OwnS w8 base v' ((B ++ [z]) ++ [s]) ∧ Kept (isRow (.slice (some ⟨g, 0, none⟩) (B.length + 1) cap)) w w8 ∧ (v'.ownBlock = Value.ownBlock (.slice (some ⟨g, 0, none⟩) (B.length + 1) cap) ∨ ∃ k, v'.ownBlock = some k ∧ w.heap.size ≤ k)) := by
        intro v' w8 h1 h2 h3
        refine ⟨?_, (Kept.of_below HB3.out).grown h2 (fun k hk => hk), ?_⟩
        · unfold OwnS
          rw [spCells_snoc, List.length_append]
          simpa using h1
        · rcases h3 with h | h
          · exact .inl h
          · exact .inr ⟨_, h, HB3.out.size⟩
      clear x2 q1 q2 hb2 hb3 hbs hwb hws
      go_wp2_with (at_builtin; refine wpList_append_own_at _ rfl (.tmp 22) (.tmp 24) 23 rfl base 75 i0 (.agg #[.int .i64 0, .int .i64 0]) 2 16 Tryz.underlying23 hi hz0 hz1 hz2 rfl (by decide) _ (B.length + 1) (spCells (B ++ [z])) rfl HO3.out ⟨w2.heap.size, 0, none⟩ 1 1 [.int .i64 s.1, .int .i64 s.2] rfl rfl HN.out (by simp [Value.oneCell']) (by unfold maxLen; omega) (by omega) HBS.out ?_; intro v8 w8 h1 h2 _ h3; have F8 := hide (HF.out v8 w8 h1 h2 h3); clear h1 h2 h3)
      go_ret
      exact ⟨_, rfl, by rw [joinL_last, if_pos hgt]; exact F8.out.1, F8.out.2⟩
    · have hgd : decide (z.2 + 1 < s.1) = false := decide_eq_false hgt
      refine wp_region_quiet (C := fun w' => Below W.heap.size W w') (by kernel_rfl) (by kernel_rfl) HD.out ?_
      refine QW.out (l := _ :: _) ?_
      iterate 13 (refine QW.take (by rfl) ?_; apply Exists.intro; refine ⟨fun w' hw' => ?_, ?_⟩; (· (have g1 := (hw'.cell (p := ⟨w.heap.size, 0, none⟩) hws).trans q1; have g2 := (hw'.cell (p := ⟨w.heap.size, 1, none⟩) hws).trans q2; have g3 := (hw'.cell (p := ⟨g, B.length * 2 + 1, none⟩) hgw).trans q3; go_simp; first | done | ((try simp only [hlz, fz, hgd]); first | done | rfl))); try simp only [Act.put, List.setIfInBounds_toArray, List.set_cons_zero, List.set_cons_succ])
      refine QW.nil ?_
      intro w2 x2
      have r2 := (x2.cell (p := ⟨w.heap.size, 1, none⟩) hws).trans q2
      have r3 := (x2.cell (p := ⟨g, B.length * 2 + 1, none⟩) hgw).trans q3
      have hb2 : Below w.heap.size w w2 := hwb.trans (x2.mono (Nat.le_of_lt hws))
      have HO2 := hide (HO.out.below hb2)
      have f3 : w2.frozen? ⟨g, B.length * 2 + 1, none⟩ = false := by
        have hh : w2.ownsRow base 75 2 (.slice (some ⟨g, 0, none⟩) (B.length + 1) cap) (B.length + 1) (spCells (B ++ [z])) := by have := HO2.out; unfold OwnS at this; simpa using this
        exact hh.frozenAt _
      have HB2 := hide hb2
      clear HD q3 hgw q1 q2 hws hwb x2 hb2
      go_wp2
      go_region
      go_wp2
      go_ret
      have hh : w2.ownsRow base 75 2 (.slice (some ⟨g, 0, none⟩) (B.length + 1) cap) (B.length + 1) (spCells (B ++ [z])) := by have := HO2.out; unfold OwnS at this; simpa using this
      obtain ⟨s1, s2⟩ := hh.stored (B.length * 2 + 1) (.int .i64 (max z.2 s.2))
      rw [spCells_setLast] at s1
      refine ⟨_, rfl, ?_, ?_, .inl rfl⟩
      · rw [joinL_last, if_neg (by omega)]
        unfold OwnS
        rw [List.length_append, List.length_singleton]
        exact s1
      · exact ((Kept.of_below HB2.out).grown s2 (fun k hk => hk)).drew

/-- The comparison. -/
theorem cmpC_any (x y : Spn) (W : World) : Calls Tryz.prog 223 #[.agg #[.int .i64 x.1, .int .i64 x.2], .agg #[.int .i64 y.1, .int .i64 y.2]] W fun e w' => e = .returned (.int .i64 (Lib.compareInt x.1 y.1)) ∧ ∃ q os', w' = grow (W.drewN q) os' := by
  have hcon := fun W' => AnyG.cmp_Compare_int Tryz.cmpInt x.1 y.1 W'
  change ∀ W', Calls Tryz.prog 224 _ _ _ at hcon
  generalize Lib.compareInt x.1 y.1 = r at hcon ⊢
  go_enter Tryz.func223, Tryz.ntmps223
  go_wp2_with (go_at_call 224; refine (hcon _).mono ?_; rintro e w' ⟨rfl, rfl⟩)
  go_ret
  exact ⟨rfl, 0, _, by rw [alloc_eq_grow, alloc_eq_grow, grow_grow]; rfl⟩
def encS (x : Spn) : List Value := [.int .i64 x.1, .int .i64 x.2]
theorem ltLo (x y : Spn) : ltOf (fun x y : Spn => Lib.compareInt x.1 y.1) x y = decide (x.1 < y.1) := by
  unfold ltOf Lib.compareInt
  by_cases h1 : x.1 < y.1
  · simp [h1]
  · by_cases h2 : y.1 < x.1 <;> simp [h1, h2]
theorem swoLo : SWO (ltOf fun x y : Spn => Lib.compareInt x.1 y.1) where
  irrefl x := by rw [ltLo]; simp
  trans x y z h1 h2 := by rw [ltLo] at *; simp at *; omega
  ntrans x y z h1 h2 := by rw [ltLo] at *; simp at *; omega

theorem perm_all {α : Type} [Inhabited α] {d d' : Array α} (h : PermIn 0 d.size d d') : d'.toList.Perm d.toList := by
  have h2 := h.2.2
  have e1 : (d'.extract 0 d.size).toList = d'.toList := by rw [← h.1]; simp
  have e2 : (d.extract 0 d.size).toList = d.toList := by simp
  rwa [e1, e2] at h2

set_option maxRecDepth 100000 in
/-- slices.SortFunc: a permutation by rising Lo; all else is as it was. -/
theorem sort_any (w : World) (base g cap : Nat) (L : List Spn) (hown : OwnS w base (.slice (some ⟨g, 0, none⟩) L.length cap) L) (hsz : L.length < 4611686018427387904) :
    Calls Tryz.prog 222 #[.slice (some ⟨g, 0, none⟩) L.length cap, .func (.func 223) #[] #[]] w fun e w' => e = .returned (.tuple #[]) ∧ ∃ M : List Spn, M.Perm L ∧ M.Pairwise (fun s t => s.1 ≤ t.1) ∧ SpAt w' (some ⟨g, 0, none⟩) M ∧ Kept (fun k => k = g) w w' := by
  have eg : ∀ args w, (callFunc 223 args).run Tryz.prog w = .ok (.enter 223 args) w := enters_of Tryz.func223 (by kernel_rfl) rfl
  have hh : w.ownsRow base 75 2 (.slice (some ⟨g, 0, none⟩) L.length cap) L.length (spCells L) := hown
  have hg : g < w.heap.size := (hown.lt g rfl).2
  have hH : HoldsK encS 2 w g 0 L.toArray := by
    intro j hj
    rw [size_flatK] at hj
    have hj' : j < L.length * 2 := by simpa using hj
    refine ⟨?_, hh.frozenAt _⟩
    rw [Nat.zero_add, hh.cellAt j hj', get_flatK _ _ _ _ (by simpa using hj')]
    have hi : j / 2 < L.length := by omega
    obtain ⟨a1, a2⟩ := spCells_get L (j / 2) hi
    rcases Nat.mod_two_eq_zero_or_one j with hm | hm
    · rw [show j / 2 * 2 = j by omega] at a1
      rw [a1, hm]
      simp [encS, List.getD_eq_getElem?_getD, hi]
    · rw [show j / 2 * 2 + 1 = j by omega] at a2
      rw [a2, hm]
      simp [encS, List.getD_eq_getElem?_getD, hi]
  have hcon := AnyQ.slices_SortFunc Tryz.sortSp 2 Tryz.isAgg75 Tryz.sizeOf75 encS (fun _ => rfl) (fun x v hv => by simp [encS] at hv; rcases hv with rfl | rfl <;> rfl) (fun x y => Lib.compareInt x.1 y.1) swoLo 223 #[] g 0 cap L.toArray w eg (fun _ _ _ _ x y => cmpC_any x y _) hH hg (by simpa using hsz)
  change Calls Tryz.prog 222 _ _ _ at hcon
  simp only [List.size_toArray] at hcon
  refine hcon.mono ?_
  rintro e w' ⟨rfl, d', n, os, hp, hs, rfl⟩
  have hsize : d'.size = L.length := by simpa using hp.1
  refine ⟨rfl, d'.toList, ?_, ?_, ?_, ?_⟩
  · have := perm_all (d := L.toArray) (by simpa using hp); simpa using this
  · rw [List.pairwise_iff_getElem]
    intro i j hi hj hij
    have := hs i j (Nat.zero_le _) hij (by simpa [hsize] using hj)
    rw [ltLo] at this
    simp only [Array.length_toList] at hi hj
    simpa [hi, hj] using this
  · have hHd : HoldsK encS 2 (sortWorldK encS 2 w g 0 n d' os) g 0 d' := by
      unfold sortWorldK
      refine holdsK_grow (enc := encS) (k := 2) _ os g 0 d' ?_ (holdsK_putRowK (enc := encS) (k := 2) (Sort.ahead w n) g 0 L.toArray d' (holdsK_ahead (enc := encS) (k := 2) w n g 0 L.toArray hH) (by simpa using hsize))
      unfold putRowK
      rw [size_putRow]
      exact hg
    refine .inr ⟨g, 0, rfl, ?_, fun i hi => ?_⟩
    · unfold sortWorldK putRowK
      rw [size_grow, size_putRow]
      exact Nat.lt_of_lt_of_le hg (Nat.le_add_right _ _)
    · have hi' : i < d'.size := by simpa using hi
      have b1 := (hHd.cell hi' (show 0 < 2 by decide)).1
      have b2 := (hHd.cell hi' (show 1 < 2 by decide)).1
      refine ⟨?_, ?_⟩
      · simpa [encS, List.getD_eq_getElem?_getD, hi'] using b1
      · simpa [encS, List.getD_eq_getElem?_getD, hi'] using b2
  · unfold sortWorldK putRowK
    refine ⟨rfl, rfl, rfl, by rw [size_grow, size_putRow]; exact Nat.le_add_right _ _, fun k hk hne => ?_⟩
    rw [heap_grow_old _ _ (by rw [size_putRow]; exact hk)]
    show (w.heap.modify g _)[k]? = _
    rw [Array.getElem?_modify, if_neg (fun h => hne h.symm)]
end Go.Proofs.YthgikaklcglpiaaGreatDoor.L5
