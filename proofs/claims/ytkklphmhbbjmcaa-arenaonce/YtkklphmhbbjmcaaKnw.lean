/-
  known by its contract. No condition.
-/
import Derived.Test.YtkklphmhbbjmcaaWrp
namespace Go.Proofs.Ytkklphmhbbjmcaa
open Go.RowKit Go.Lib Go.Maps

theorem zat_new (w : World) (L : List Int) : ZAt (w.alloc (.cells (zC L).toArray 3)) (some ⟨w.heap.size, 0, none⟩) L := by
  refine .inr ⟨w.heap.size, 0, rfl, by simp, fun i hi => ?_⟩
  rw [Nat.zero_add, cell_of_row _ _ i _ _ _ (heap_alloc_new w _), List.getElem?_toArray, zC_get L hi]
theorem mk1 : MkP [2, 3] 8 [] 1 [0, 1, 1] 2 0 [(1, [0, 1, 1])] := .inr (.inr (.inr (.inr ⟨(mayB_iff _ _ _ _).1 (by decide), by decide, by decide, by decide, by decide, rfl, rfl⟩)))
theorem mk2 : MkP [2, 3] 8 [(1, [0, 1, 1])] 1 [0, 1, 1] 2 0 [(1, [0, 1, 1])] := .inr (.inr (.inl ⟨(mayB_iff _ _ _ _).1 (by decide), by decide, ⟨0, rfl, rfl⟩, rfl, rfl⟩))
theorem mk3 : MkP [2, 3] 8 [(1, [0, 1, 1])] 0 [2, 0] 3 0 [(1, [0, 1, 1]), (0, [2, 0])] := .inr (.inr (.inr (.inr ⟨(mayB_iff _ _ _ _).1 (by decide), by decide, by decide, by decide, by decide, rfl, rfl⟩)))
theorem mk4 : MkP [2, 3] 8 [(1, [0, 1, 1]), (0, [2, 0])] 1 [3, 0, 0] 0 1 [(1, [0, 1, 1]), (0, [2, 0])] := .inl ⟨may_no (by decide), rfl, rfl, rfl⟩
theorem mk5 : MkP [2, 3] 8 [(1, [0, 1, 1]), (0, [2, 0])] 1 [1, 1, 1] 1 0 [(1, [0, 1, 1]), (0, [2, 0])] := .inr (.inl ⟨(mayB_iff _ _ _ _).1 (by decide), by decide, rfl, rfl, rfl⟩)
/-- Make, where its answer is known. -/
theorem CA.made {w : World} {a : Nat} {S : List Int} {M : Int} {N N' : List Nd} {m : Nat} {P : Nat → Prop} (h : CA w a S M N m P) {lv f er : Int} {A : List Int} (g c : Nat) (hk : MkP S M N lv A f er N') (hl : A.length ≤ 140737488351232) (hz : ZAt w (some ⟨g, 0, none⟩) A) (hm : m ≤ 1000) {w0 : World} (hb : Below w0.heap.size w0 w) (hp : ∀ k, P k → w0.heap.size ≤ k) :
    Calls Try.prog 18 #[.pointer (some ⟨a, 0, none⟩), .int .i64 lv, .slice (some ⟨g, 0, none⟩) A.length c] w fun e w' => e = .returned (.tuple #[.int .i64 f, .int .i64 er]) ∧ ∃ P', CA w' a S M N' (m + 1) P' ∧ Below w0.heap.size w0 w' ∧ ∀ k, P' k → w0.heap.size ≤ k := by
  refine (h.make lv _ c A hl hz (by omega)).mono ?_
  rintro e w' ⟨f2, er2, N2, rfl, h2, P', h3, h4, h5, _⟩
  obtain ⟨rfl, rfl, rfl⟩ := MkP.one h.ok.nod h2 hk
  exact ⟨rfl, P', h3, hb.trans (h4.below hb.size hp), fun k hk => (h5 k hk).elim (hp k) (Nat.le_trans hb.size)⟩
set_option maxRecDepth 100000 in
set_option maxHeartbeats 4000000 in
theorem known_any (w : World) : Calls Try.prog 5 #[] w fun e w' => e = .returned (.bool true) ∧ Below w.heap.size w w' := by
  have y1 : Below w.heap.size w (w.alloc (.cells #[.int .i64 2, .int .i64 3] 3)) := al (Below.refl _ _) _
  have HN := newC_any (some ⟨w.heap.size, 0, none⟩) 2 [2, 3] 8 (w.alloc (.cells #[.int .i64 2, .int .i64 3] 3)) (by simp) (zat_new w [2, 3])
  have HNW : Hid (Calls Try.prog 6 #[.slice (some ⟨w.heap.size, 0, none⟩) 2 2, .int .i64 8] (w.alloc (.cells #[.int .i64 2, .int .i64 3] 3)) fun e w' => ∃ a P, e = .returned (.tuple #[.pointer (some ⟨a, 0, none⟩), .int .i64 0]) ∧ CA w' a [2, 3] 8 [] 0 P ∧ Below w.heap.size w w' ∧ ∀ k, P k → w.heap.size ≤ k) := by
    refine HN.mono ?_
    rintro e w' ⟨⟨_, _, _, a, P, rfl, h1, h2⟩ | ⟨h1, _⟩, hb⟩
    · exact ⟨a, P, rfl, h1, bt y1 hb (Nat.le_refl _), fun k hk => Nat.le_trans y1.size (h2 k hk)⟩
    · exact absurd ⟨⟨by decide, by decide, by decide⟩, by decide, by decide⟩ h1
  clear HN y1
  go_enter Try.func5, Try.ntmps5
  go_upto_region 4 with (go_at_call 6; refine HNW.out.mono ?_; rintro e w1 ⟨a, P1, rfl, h1, b1, p1⟩; have H1 := hide h1; have B1 := hide b1; have P1' := hide p1; clear h1 b1 p1)
  clear HNW
  have y2 : Below w1.heap.size w1 (w1.alloc (.cells #[.int .i64 0, .int .i64 1, .int .i64 1] 3)) := al (Below.refl _ _) _
  have M2 := hide (CA.made (H1.out.below y2) w1.heap.size 3 mk1 (by simp) (zat_new w1 [0, 1, 1]) (by decide) (bt B1.out y2 (Nat.le_refl _)) P1'.out)
  clear H1 B1 P1' y2
  go_upto_region 5 with (go_at_call 18; refine M2.out.mono ?_; rintro e w2 ⟨rfl, P2, h1, b1, p1⟩; have H2 := hide h1; have B2 := hide b1; have P2' := hide p1; clear h1 b1 p1)
  clear M2
  have y2 : Below w2.heap.size w2 (w2.alloc (.cells #[.int .i64 0, .int .i64 1, .int .i64 1] 3)) := al (Below.refl _ _) _
  have M2 := hide (CA.made (H2.out.below y2) w2.heap.size 3 mk2 (by simp) (zat_new w2 [0, 1, 1]) (by decide) (bt B2.out y2 (Nat.le_refl _)) P2'.out)
  clear H2 B2 P2' y2
  go_upto_region 6 with (go_at_call 18; refine M2.out.mono ?_; rintro e w3 ⟨rfl, P3, h1, b1, p1⟩; have H3 := hide h1; have B3 := hide b1; have P3' := hide p1; clear h1 b1 p1)
  clear M2
  have y2 : Below w3.heap.size w3 (w3.alloc (.cells #[.int .i64 2, .int .i64 0] 3)) := al (Below.refl _ _) _
  have M2 := hide (CA.made (H3.out.below y2) w3.heap.size 2 mk3 (by simp) (zat_new w3 [2, 0]) (by decide) (bt B3.out y2 (Nat.le_refl _)) P3'.out)
  clear H3 B3 P3' y2
  go_upto_region 7 with (go_at_call 18; refine M2.out.mono ?_; rintro e w4 ⟨rfl, P4, h1, b1, p1⟩; have H4 := hide h1; have B4 := hide b1; have P4' := hide p1; clear h1 b1 p1)
  clear M2
  have y2 : Below w4.heap.size w4 (w4.alloc (.cells #[.int .i64 3, .int .i64 0, .int .i64 0] 3)) := al (Below.refl _ _) _
  have M2 := hide (CA.made (H4.out.below y2) w4.heap.size 3 mk4 (by simp) (zat_new w4 [3, 0, 0]) (by decide) (bt B4.out y2 (Nat.le_refl _)) P4'.out)
  clear H4 B4 P4' y2
  go_upto_region 8 with (go_at_call 18; refine M2.out.mono ?_; rintro e w5 ⟨rfl, P5, h1, b1, p1⟩; have H5 := hide h1; have B5 := hide b1; have P5' := hide p1; clear h1 b1 p1)
  clear M2
  have y2 : Below w5.heap.size w5 (w5.alloc (.cells #[.int .i64 1, .int .i64 1, .int .i64 1] 3)) := al (Below.refl _ _) _
  have M2 := hide (CA.made (H5.out.below y2) w5.heap.size 3 mk5 (by simp) (zat_new w5 [1, 1, 1]) (by decide) (bt B5.out y2 (Nat.le_refl _)) P5'.out)
  clear H5 B5 P5' y2
  go_upto_region 9 with (go_at_call 18; refine M2.out.mono ?_; rintro e w6 ⟨rfl, P6, h1, b1, p1⟩; have H6 := hide h1; have B6 := hide b1; clear h1 b1 p1)
  clear M2
  have L1 := H6.out.level 2
  have L2 := H6.out.level 9
  rw [show lvl [2, 3] [(1, [0, 1, 1]), (0, [2, 0])] 2 = 1 by decide] at L1
  rw [show lvl [2, 3] [(1, [0, 1, 1]), (0, [2, 0])] 9 = 2 by decide] at L2
  have HL1 := hide L1
  have HL2 := hide L2
  have HLN := hide H6.out.len
  clear L1 L2
  go_wp2_with (first
    | (go_at_call 15; refine HL1.out.mono ?_; rintro e w7 ⟨rfl, hw7⟩; have hw8 := hw7.symm; clear hw7 HL1; subst hw8)
    | (go_at_call 15; refine HL2.out.mono ?_; rintro e w7 ⟨rfl, hw7⟩; have hw8 := hw7.symm; clear hw7; subst hw8)
    | (go_at_call 12; refine HLN.out.mono ?_; rintro e w7 ⟨rfl, hw7⟩; have hw8 := hw7.symm; clear hw7; subst hw8))
  go_ret
  exact ⟨rfl, B6.out⟩
end Go.Proofs.Ytkklphmhbbjmcaa
