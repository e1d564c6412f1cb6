/-
  The document's Make, walked. Condition: a list has at most 2^32 spans.
-/
import Derived.Test.YtaiijdnfimclbaaRef4
namespace Go.Proofs.Ytaiijdnfimclbaa
open Go.RowKit Go.Lib

theorem byLo_nil (w : World) : Calls Try.prog 65 #[.slice none 0 0] w fun e w' => e = .returned (.slice none 0 0) ∧ w' = w := by
  go_enter Try.func65, Try.ntmps65
  go_wp2
  go_ret
  exact ⟨rfl, rfl⟩
theorem byLo_all (ao : Option Addr) (cap : Nat) (L : List Spn) (w : World) (hat : SpAt w ao L) (hc : L.length ≤ cap) (hz : ao = none → cap = 0) (hl : L.length ≤ 4294967296) :
    Calls Try.prog 65 #[.slice ao L.length cap] w fun e w' => ∃ (a1 : Option Addr) (c : Nat) (M : List Spn), e = .returned (.slice a1 L.length c) ∧ M.Perm L ∧ Sorted1 M ∧ SpAt w' a1 M ∧ Below w.heap.size w w' := by
  cases ao with
  | none =>
    have hL : L = [] := by
      rcases hat with h | ⟨b, off, e, _⟩
      · exact h
      · cases e
    subst hL
    rw [hz rfl]
    refine (byLo_nil w).mono ?_
    rintro e w' ⟨rfl, rfl⟩
    exact ⟨none, 0, [], rfl, List.Perm.refl _, List.Pairwise.nil, .inl rfl, Below.refl _ _⟩
  | some a =>
    refine (byLo_any _ L (Nat.le_refl _) a cap w hat hc hl).mono ?_
    rintro e w' ⟨a1, c, M, he, h1, h2, h3, _, h5⟩
    exact ⟨some a1, c, M, by rw [he, h1.length_eq], h1, h2, h3, h5⟩

theorem bnd_getD {L : List Spn} {k : Nat} (h : ∀ s ∈ L, Bnd s) (hk : k < L.length) : Bnd (L.getD k (0, 0)) := by
  have := h L[k] (List.getElem_mem hk)
  simpa [List.getD_eq_getElem?_getD, hk] using this

set_option maxRecDepth 100000 in
set_option maxHeartbeats 4000000 in
theorem refMake_any (ao : Option Addr) (cap : Nat) (L : List Spn) (w : World) (hl : L.length ≤ 4294967296) (hat : SpAt w ao L) (hcap : L.length ≤ cap) (hz : ao = none → cap = 0) :
    Calls Try.prog 41 #[.slice ao L.length cap] w fun e w' => Below w.heap.size w w' ∧
      (((∀ s ∈ L, Bnd s) ∧ ∃ v' M, e = .returned (.tuple #[v', .int .i64 0]) ∧ OwnS w' w.heap.size v' M ∧ IsSet M ∧ (∀ n, memB n M = memB n L) ∧ M.length ≤ L.length) ∨
       ((¬ ∀ s ∈ L, Bnd s) ∧ e = .returned (.tuple #[.slice none 0 0, .int .i64 20]))) := by
  obtain ⟨i0, hi, hz0, hz1, hz2⟩ := Try.info59'
  go_enter Try.func41, Try.ntmps41
  go_wp2
  go_loopw [4] (fun i wr => ∃ k : Nat, k ≤ L.length ∧ i = .int .i64 k ∧ Hid (∀ j, j < k → Bnd (L.getD j (0, 0))) ∧ Below w.heap.size w wr) (fun i _ => L.length - (intOf i).toNat)
  case atStart => exact ⟨0, Nat.zero_le _, rfl, fun j hj => absurd hj (by omega), Below.refl _ _⟩
  case round =>
    obtain ⟨k, hk, rfl, hok, hq⟩ := hrel
    have HQ := hide hq
    clear hq
    by_cases hlt : k < L.length
    · obtain ⟨b, off, rfl, hb, hc⟩ := hat.get hlt
      obtain ⟨c1, c2⟩ := (hc k hlt).below HQ.out hb
      have hbr : b < wr.heap.size := Nat.lt_of_lt_of_le hb HQ.out.size
      obtain ⟨s, hs⟩ : ∃ s, s = L.getD k (0, 0) := ⟨_, rfl⟩
      rw [← hs] at c1 c2
      have HS := hide hs
      have HD : Hid (Below wr.heap.size wr wr.drew) := (Below.refl _ _).drew
      have hki : (k : Int) < (L.length : Int) := by omega
      clear hs hc hat
      by_cases z2 : s.2 < s.1
      · have d2 : decide (s.2 < s.1) = true := decide_eq_true z2
        have hno : ¬ Bnd s := fun h => by unfold Bnd at h; omega
        go_wp2
        refine wp_region_quiet (C := fun w' => Below wr.heap.size wr w') (by kernel_rfl) (by kernel_rfl) HD.out ?_
        refine QW.out (l := _ :: _) ?_
        iterate 12 (refine QW.take (by rfl) ?_; apply Exists.intro; refine ⟨fun w' hw' => ?_, ?_⟩; (· (have g1 := (hw'.cell (p := ⟨b, off + k * 2, none⟩) hbr).trans c1; have g2 := (hw'.cell (p := ⟨b, off + k * 2 + 1, none⟩) hbr).trans c2; go_simp; first | done | ((try simp only [d2]); first | done | rfl))); try simp only [Act.put, List.setIfInBounds_toArray, List.set_cons_zero, List.set_cons_succ])
        iterate 6 (refine QW.skip (by rfl) ?_; try simp only [Act.put, List.setIfInBounds_toArray, List.set_cons_zero, List.set_cons_succ])
        iterate 2 (refine QW.take (by rfl) ?_; apply Exists.intro; refine ⟨fun w' hw' => ?_, ?_⟩; (· (have g1 := (hw'.cell (p := ⟨b, off + k * 2, none⟩) hbr).trans c1; have g2 := (hw'.cell (p := ⟨b, off + k * 2 + 1, none⟩) hbr).trans c2; go_simp; first | done | ((try simp only [d2]); first | done | rfl))); try simp only [Act.put, List.setIfInBounds_toArray, List.set_cons_zero, List.set_cons_succ])
        iterate 6 (refine QW.skip (by rfl) ?_; try simp only [Act.put, List.setIfInBounds_toArray, List.set_cons_zero, List.set_cons_succ])
        iterate 1 (refine QW.take (by rfl) ?_; apply Exists.intro; refine ⟨fun w' hw' => ?_, ?_⟩; (· (have g1 := (hw'.cell (p := ⟨b, off + k * 2, none⟩) hbr).trans c1; have g2 := (hw'.cell (p := ⟨b, off + k * 2 + 1, none⟩) hbr).trans c2; go_simp; first | done | ((try simp only [d2]); first | done | rfl))); try simp only [Act.put, List.setIfInBounds_toArray, List.set_cons_zero, List.set_cons_succ])
        refine QW.nil ?_
        intro w2 x2
        have X2 := hide x2
        clear x2
        go_wp2
        go_ret2
        exact ⟨bt HQ.out X2.out (Nat.le_refl _), .inr ⟨fun h => hno (by rw [HS.out]; exact bnd_getD h hlt), rfl⟩⟩
      have d2 : decide (s.2 < s.1) = false := decide_eq_false z2
      by_cases z1 : s.1 < 0
      · have d1 : decide (s.1 < 0) = true := decide_eq_true z1
        have hno : ¬ Bnd s := fun h => by unfold Bnd at h; omega
        go_wp2
        refine wp_region_quiet (C := fun w' => Below wr.heap.size wr w') (by kernel_rfl) (by kernel_rfl) HD.out ?_
        refine QW.out (l := _ :: _) ?_
        iterate 20 (refine QW.take (by rfl) ?_; apply Exists.intro; refine ⟨fun w' hw' => ?_, ?_⟩; (· (have g1 := (hw'.cell (p := ⟨b, off + k * 2, none⟩) hbr).trans c1; have g2 := (hw'.cell (p := ⟨b, off + k * 2 + 1, none⟩) hbr).trans c2; go_simp; first | done | ((try simp only [d1, d2]); first | done | rfl))); try simp only [Act.put, List.setIfInBounds_toArray, List.set_cons_zero, List.set_cons_succ])
        iterate 6 (refine QW.skip (by rfl) ?_; try simp only [Act.put, List.setIfInBounds_toArray, List.set_cons_zero, List.set_cons_succ])
        iterate 1 (refine QW.take (by rfl) ?_; apply Exists.intro; refine ⟨fun w' hw' => ?_, ?_⟩; (· (have g1 := (hw'.cell (p := ⟨b, off + k * 2, none⟩) hbr).trans c1; have g2 := (hw'.cell (p := ⟨b, off + k * 2 + 1, none⟩) hbr).trans c2; go_simp; first | done | ((try simp only [d1, d2]); first | done | rfl))); try simp only [Act.put, List.setIfInBounds_toArray, List.set_cons_zero, List.set_cons_succ])
        refine QW.nil ?_
        intro w2 x2
        have X2 := hide x2
        clear x2
        go_wp2
        go_ret2
        exact ⟨bt HQ.out X2.out (Nat.le_refl _), .inr ⟨fun h => hno (by rw [HS.out]; exact bnd_getD h hlt), rfl⟩⟩
      have d1 : decide (s.1 < 0) = false := decide_eq_false z1
      by_cases z3 : 4294967295 < s.2
      · have d3 : decide (4294967295 < s.2) = true := decide_eq_true z3
        have hno : ¬ Bnd s := fun h => by unfold Bnd at h; omega
        go_wp2
        refine wp_region_quiet (C := fun w' => Below wr.heap.size wr w') (by kernel_rfl) (by kernel_rfl) HD.out ?_
        refine QW.out (l := _ :: _) ?_
        iterate 27 (refine QW.take (by rfl) ?_; apply Exists.intro; refine ⟨fun w' hw' => ?_, ?_⟩; (· (have g1 := (hw'.cell (p := ⟨b, off + k * 2, none⟩) hbr).trans c1; have g2 := (hw'.cell (p := ⟨b, off + k * 2 + 1, none⟩) hbr).trans c2; go_simp; first | done | ((try simp only [d1, d2, d3]); first | done | rfl))); try simp only [Act.put, List.setIfInBounds_toArray, List.set_cons_zero, List.set_cons_succ])
        refine QW.nil ?_
        intro w2 x2
        have X2 := hide x2
        clear x2
        go_wp2
        go_ret2
        exact ⟨bt HQ.out X2.out (Nat.le_refl _), .inr ⟨fun h => hno (by rw [HS.out]; exact bnd_getD h hlt), rfl⟩⟩
      have d3 : decide (4294967295 < s.2) = false := decide_eq_false z3
      have hbd : Bnd s := ⟨by omega, by omega, by omega⟩
      go_wp2
      refine wp_region_quiet (C := fun w' => Below wr.heap.size wr w') (by kernel_rfl) (by kernel_rfl) HD.out ?_
      refine QW.out (l := _ :: _) ?_
      iterate 27 (refine QW.take (by rfl) ?_; apply Exists.intro; refine ⟨fun w' hw' => ?_, ?_⟩; (· (have g1 := (hw'.cell (p := ⟨b, off + k * 2, none⟩) hbr).trans c1; have g2 := (hw'.cell (p := ⟨b, off + k * 2 + 1, none⟩) hbr).trans c2; go_simp; first | done | ((try simp only [d1, d2, d3]); first | done | rfl))); try simp only [Act.put, List.setIfInBounds_toArray, List.set_cons_zero, List.set_cons_succ])
      refine QW.nil ?_
      intro w2 x2
      have X2 := hide x2
      clear x2
      go_wp2
      go_roundw
      case rel =>
        refine ⟨k + 1, by omega, by go_num, fun j hj => ?_, bt HQ.out X2.out (Nat.le_refl _)⟩
        rcases Nat.lt_or_ge j k with h | h
        · exact hok.out j h
        · rw [show j = k by omega, ← HS.out]; exact hbd
      case measure => simp [intOf]; omega
    · have h8 : k = L.length := by omega
      subst h8
      have hall : ∀ s ∈ L, Bnd s := fun s hs => by
        obtain ⟨i, hi, rfl⟩ := List.getElem_of_mem hs
        simpa [List.getD_eq_getElem?_getD, hi] using hok.out i hi
      have hcl := byLo_all ao cap L wr (hat.below HQ.out) hcap hz hl
      have HALL := hide hall
      clear hall hat hz
      go_wp2_with (go_at_call 65; refine hcl.mono ?_; rintro e w2 ⟨a2, c2, M, he, m1, m2, m3, x2⟩; subst he; have M1 := hide m1; have M2 := hide m2; have M3 := hide m3; have X2 := hide x2; clear m1 m2 m3 x2)
      have hml : M.length = L.length := M1.out.length_eq
      have hmb : ∀ s ∈ M, Bnd s := fun s hs => HALL.out s (M1.out.mem_iff.1 hs)
      have HMB := hide hmb
      have HBW := hide (bt HQ.out X2.out (Nat.le_refl _))
      have HML := hide hml
      clear hmb hml
      go_loopw [6, 7] (fun o i wk => ∃ k : Nat, k ≤ L.length ∧ i = .int .i64 k ∧ Hid (OwnS wk w2.heap.size o (joinAll (M.take k))) ∧ Below w2.heap.size w2 wk) (fun _ i _ => L.length - (intOf i).toNat)
      case atStart => exact ⟨0, Nat.zero_le _, rfl, OwnS.nil _ _, Below.refl _ _⟩
      case round =>
        obtain ⟨k, hk, rfl, ho, hq⟩ := hrel
        have HQ2 := hide hq
        clear hq
        by_cases hlt : k < L.length
        · have hltm : k < M.length := by rw [HML.out]; exact hlt
          obtain ⟨b, off, rfl, hb, hc⟩ := M3.out.get (i := k) hltm
          obtain ⟨q1, q2⟩ := (hc k hltm).below HQ2.out hb
          have hbr : b < wr.heap.size := Nat.lt_of_lt_of_le hb HQ2.out.size
          obtain ⟨s, hs⟩ : ∃ s, s = M.getD k (0, 0) := ⟨_, rfl⟩
          rw [← hs] at q1 q2
          have hst := take_getD M k hltm
          rw [← hs] at hst
          have hA := (joinAll_spec _ (M.take k) rfl (fun s hs => HMB.out s (List.mem_of_mem_take hs)) (M2.out.sublist (List.take_sublist k M))).1
          have hjl := joinAll_length (M.take k)
          rw [List.length_take, HML.out] at hjl
          have hst2 : joinAll (M.take (k + 1)) = joinL (joinAll (M.take k)) s := by rw [hst, joinAll_snoc]
          obtain ⟨C, hC⟩ : ∃ C, C = joinAll (M.take k) := ⟨_, rfl⟩
          rw [← hC] at ho hA hjl hst2
          have HST := hide hst2
          have hki : (k : Int) < (L.length : Int) := by omega
          have hsb := HMB.out s (by rw [hs]; simp [List.getD_eq_getElem?_getD, hltm])
          have HD : Hid (Below wr.heap.size wr wr.drew) := (Below.refl _ _).drew
          obtain ⟨ao6, cap6, rfl, _, _⟩ := ho.out.shape
          have HO := ho
          have hh : wr.ownsRow w2.heap.size 59 2 (.slice ao6 C.length cap6) C.length (spCells C) := ho.out
          clear hs hc hst hst2 hC ho hltm
          rcases List.eq_nil_or_concat C with rfl | ⟨B, z, rfl⟩
          · clear hh
            simp only [List.length_nil] at *
            go_wp2
            refine wp_region_quiet (C := fun w' => Below wr.heap.size wr w') (by kernel_rfl) (by kernel_rfl) HD.out ?_
            refine QW.out (l := _ :: _) ?_
            iterate 3 (refine QW.take (by rfl) ?_; apply Exists.intro; refine ⟨fun w' hw' => ?_, ?_⟩; (· (go_simp; first | done | (first | done | rfl))); try simp only [Act.put, List.setIfInBounds_toArray, List.set_cons_zero, List.set_cons_succ])
            iterate 12 (refine QW.skip (by rfl) ?_; try simp only [Act.put, List.setIfInBounds_toArray, List.set_cons_zero, List.set_cons_succ])
            iterate 1 (refine QW.take (by rfl) ?_; apply Exists.intro; refine ⟨fun w' hw' => ?_, ?_⟩; (· (go_simp; first | done | (first | done | rfl))); try simp only [Act.put, List.setIfInBounds_toArray, List.set_cons_zero, List.set_cons_succ])
            refine QW.nil ?_
            intro w5 x5
            clear HD
            have r1 := (x5.cell (p := ⟨b, off + k * 2, none⟩) hbr).trans q1
            have r2 := (x5.cell (p := ⟨b, off + k * 2 + 1, none⟩) hbr).trans q2
            have hb5 : Below w2.heap.size w2 w5 := HQ2.out.trans (x5.mono HQ2.out.size)
            have hb6 : Below w2.heap.size w2 (w5.alloc (.cells #[.int .i64 s.1, .int .i64 s.2] 59)) := hb5.alloc hb5.size _
            have hx6 : Below wr.heap.size wr (w5.alloc (.cells #[.int .i64 s.1, .int .i64 s.2] 59)) := x5.alloc x5.size _
            have HB6 := hide hb6
            have ho6 : (w5.alloc (.cells #[.int .i64 s.1, .int .i64 s.2] 59)).ownsRow w2.heap.size 59 2 (.slice ao6 0 cap6) (0) (spCells ([])) := by have := HO.out.below hx6; unfold OwnS at this; simpa using this
            have HO6 := hide ho6
            have HN := hide (new_cells w5 s w5.heap.size rfl)
            have FIN : Hid (∀ w8 v8, w8.ownsRow w2.heap.size 59 2 v8 ((0) + 1) (spCells ([]) ++ [.int .i64 s.1, .int .i64 s.2]) → World.grownBy (w5.alloc (.cells #[.int .i64 s.1, .int .i64 s.2] 59)) w8 (Value.ownBlock (.slice ao6 0 cap6)) → OwnS w8 w2.heap.size v8 (([]) ++ [s]) ∧ Below w2.heap.size w2 w8) := fun w8 v8 h1 h2 => by
              refine ⟨?_, HB6.out.grown h2 HB6.out.size (fun i hi => (World.ownsRow.lt HO6.out i hi).1)⟩
              unfold OwnS
              rw [spCells_snoc, List.length_append]
              simpa using h1
            clear hb5 hb6 hx6 x5 q1 q2 ho6
            go_wp2_with (at_builtin; refine wpList_append_own_at _ rfl (.tmp 84) (.tmp 89) 42 rfl w2.heap.size 59 i0 (.agg #[.int .i64 0, .int .i64 0]) 2 16 Try.underlying42 hi hz0 hz1 hz2 rfl (by decide) _ 0 (spCells []) rfl HO6.out ⟨w5.heap.size, 0, none⟩ 1 1 [.int .i64 s.1, .int .i64 s.2] rfl rfl HN.out (by simp [Value.oneCell']) (by unfold maxLen; omega) (by omega) HB6.out.size ?_; intro v8 w8 h1 h2 _ h3; obtain ⟨f1, f2⟩ := FIN.out w8 v8 h1 h2; have F1 := hide f1; have F2 := hide f2; clear h1 h2 h3 f1 f2)
            go_roundw
            case rel => exact ⟨k + 1, by omega, by go_num, by rw [HST.out, joinL_nil]; exact F1.out, F2.out⟩
            case measure => simp [intOf]; omega
          · simp only [List.concat_eq_append] at *
            obtain ⟨hz3, hz4⟩ := take_last hA B z rfl
            rw [List.length_append, List.length_singleton] at hjl hh
            have hx : ∃ g, ao6 = some ⟨g, 0, none⟩ ∧ g < wr.heap.size := by
              rcases hh.2 with ⟨_, hn⟩ | ⟨g, cap', cur, hv, _, hg, _⟩
              · omega
              · injection hv with e1 e2 e3
                exact ⟨g, e1, lt_of_block hg⟩
            obtain ⟨g, rfl, hg⟩ := hx
            have ha := spCells_get (B ++ [z]) B.length (by simp)
            rw [show (B ++ [z]).getD B.length (0, 0) = z by simp [List.getD_eq_getElem?_getD]] at ha
            have p2 := (hh.cellAt (B.length * 2 + 1) (by omega)).trans ha.2
            clear hh ha
            simp only [List.length_append, List.length_singleton] at *
            have hlz : decide ((B.length : Int) < 0) = false := decide_eq_false (by omega)
            have hi2 : (B.length : Int) < (B.length : Int) + 1 := by omega
            have fz : IntKind.i64.wrap (z.2 + 1) = z.2 + 1 := by simp [IntKind.wrap, IntKind.bits, IntKind.signed]; omega
            go_wp2
            by_cases hgt : s.1 ≤ z.2 + 1
            · have hgd : decide (s.1 ≤ z.2 + 1) = true := decide_eq_true hgt
              refine wp_region_quiet (C := fun w' => Below wr.heap.size wr w') (by kernel_rfl) (by kernel_rfl) HD.out ?_
              refine QW.out (l := _ :: _) ?_
              iterate 16 (refine QW.take (by rfl) ?_; apply Exists.intro; refine ⟨fun w' hw' => ?_, ?_⟩; (· (have g1 := (hw'.cell (p := ⟨b, off + k * 2, none⟩) hbr).trans q1; have g3 := (hw'.cell (p := ⟨g, B.length * 2 + 1, none⟩) hg).trans p2; go_simp; first | done | ((try simp only [hlz, fz, hgd]); first | done | rfl))); try simp only [Act.put, List.setIfInBounds_toArray, List.set_cons_zero, List.set_cons_succ])
              refine QW.nil ?_
              intro w5 x5
              have r2 := (x5.cell (p := ⟨b, off + k * 2 + 1, none⟩) hbr).trans q2
              have r3 := (x5.cell (p := ⟨g, B.length * 2 + 1, none⟩) hg).trans p2
              have HO2 := hide (HO.out.below x5)
              have f3 : w5.frozen? ⟨g, B.length * 2 + 1, none⟩ = false := by
                have hh : w5.ownsRow w2.heap.size 59 2 (.slice (some ⟨g, 0, none⟩) (B.length + 1) cap6) (B.length + 1) (spCells (B ++ [z])) := by have := HO2.out; unfold OwnS at this; simpa using this
                exact hh.frozenAt _
              have HB2 := hide (HQ2.out.trans (x5.mono HQ2.out.size))
              clear HD q1 q2 p2 x5
              go_wp2
              go_region
              go_wp2
              go_roundw
              case rel =>
                have hh : w5.ownsRow w2.heap.size 59 2 (.slice (some ⟨g, 0, none⟩) (B.length + 1) cap6) (B.length + 1) (spCells (B ++ [z])) := by have := HO2.out; unfold OwnS at this; simpa using this
                obtain ⟨s1, s2⟩ := hh.stored (B.length * 2 + 1) (.int .i64 (max z.2 s.2))
                rw [spCells_setLast] at s1
                refine ⟨k + 1, by omega, by go_num, ?_, ?_⟩
                · rw [HST.out, joinL_last, if_neg (by omega)]
                  unfold OwnS
                  rw [List.length_append, List.length_singleton]
                  exact s1
                · exact (HB2.out.grown s2 HB2.out.size (fun i hi => (World.ownsRow.lt hh i hi).1)).drew
              case measure => simp [intOf]; omega
            · have hgd : decide (s.1 ≤ z.2 + 1) = false := decide_eq_false hgt
              refine wp_region_quiet (C := fun w' => Below wr.heap.size wr w') (by kernel_rfl) (by kernel_rfl) HD.out ?_
              refine QW.out (l := _ :: _) ?_
              iterate 16 (refine QW.take (by rfl) ?_; apply Exists.intro; refine ⟨fun w' hw' => ?_, ?_⟩; (· (have g1 := (hw'.cell (p := ⟨b, off + k * 2, none⟩) hbr).trans q1; have g3 := (hw'.cell (p := ⟨g, B.length * 2 + 1, none⟩) hg).trans p2; go_simp; first | done | ((try simp only [hlz, fz, hgd]); first | done | rfl))); try simp only [Act.put, List.setIfInBounds_toArray, List.set_cons_zero, List.set_cons_succ])
              refine QW.nil ?_
              intro w5 x5
              clear HD
              have r1 := (x5.cell (p := ⟨b, off + k * 2, none⟩) hbr).trans q1
              have r2 := (x5.cell (p := ⟨b, off + k * 2 + 1, none⟩) hbr).trans q2
              have hb5 : Below w2.heap.size w2 w5 := HQ2.out.trans (x5.mono HQ2.out.size)
              have hb6 : Below w2.heap.size w2 (w5.alloc (.cells #[.int .i64 s.1, .int .i64 s.2] 59)) := hb5.alloc hb5.size _
              have hx6 : Below wr.heap.size wr (w5.alloc (.cells #[.int .i64 s.1, .int .i64 s.2] 59)) := x5.alloc x5.size _
              have HB6 := hide hb6
              have ho6 : (w5.alloc (.cells #[.int .i64 s.1, .int .i64 s.2] 59)).ownsRow w2.heap.size 59 2 (.slice (some ⟨g, 0, none⟩) (B.length + 1) cap6) (B.length + 1) (spCells (B ++ [z])) := by have := HO.out.below hx6; unfold OwnS at this; simpa using this
              have HO6 := hide ho6
              have HN := hide (new_cells w5 s w5.heap.size rfl)
              have FIN : Hid (∀ w8 v8, w8.ownsRow w2.heap.size 59 2 v8 ((B.length + 1) + 1) (spCells (B ++ [z]) ++ [.int .i64 s.1, .int .i64 s.2]) → World.grownBy (w5.alloc (.cells #[.int .i64 s.1, .int .i64 s.2] 59)) w8 (Value.ownBlock (.slice (some ⟨g, 0, none⟩) (B.length + 1) cap6)) → OwnS w8 w2.heap.size v8 ((B ++ [z]) ++ [s]) ∧ Below w2.heap.size w2 w8) := fun w8 v8 h1 h2 => by
                refine ⟨?_, HB6.out.grown h2 HB6.out.size (fun i hi => (World.ownsRow.lt HO6.out i hi).1)⟩
                unfold OwnS
                rw [spCells_snoc, List.length_append]
                simpa using h1
              clear hb5 hb6 hx6 x5 q1 q2 ho6
              go_wp2_with (at_builtin; refine wpList_append_own_at _ rfl (.tmp 84) (.tmp 89) 42 rfl w2.heap.size 59 i0 (.agg #[.int .i64 0, .int .i64 0]) 2 16 Try.underlying42 hi hz0 hz1 hz2 rfl (by decide) _ (B.length + 1) (spCells (B ++ [z])) rfl HO6.out ⟨w5.heap.size, 0, none⟩ 1 1 [.int .i64 s.1, .int .i64 s.2] rfl rfl HN.out (by simp [Value.oneCell']) (by unfold maxLen; omega) (by omega) HB6.out.size ?_; intro v8 w8 h1 h2 _ h3; obtain ⟨f1, f2⟩ := FIN.out w8 v8 h1 h2; have F1 := hide f1; have F2 := hide f2; clear h1 h2 h3 f1 f2)
              go_roundw
              case rel => exact ⟨k + 1, by omega, by go_num, by rw [HST.out, joinL_last, if_pos (by omega)]; exact F1.out, F2.out⟩
              case measure => simp [intOf]; omega
        · have h8 : k = L.length := by omega
          subst h8
          rw [← HML.out, List.take_length] at ho
          go_wp2
          go_ret2
          obtain ⟨j1, j2, _⟩ := joinAll_spec _ M rfl HMB.out M2.out
          refine ⟨HBW.out.trans (HQ2.out.mono HBW.out.size), .inl ⟨HALL.out, u6, joinAll M, rfl, ho.out.mono HBW.out.size, j1, fun n => ?_, by have := joinAll_length M; rw [HML.out] at this; exact this⟩⟩
          rw [j2, Bool.eq_iff_iff, memB_iff, memB_iff]
          exact ⟨fun ⟨s, h1, h2⟩ => ⟨s, M1.out.mem_iff.1 h1, h2⟩, fun ⟨s, h1, h2⟩ => ⟨s, M1.out.mem_iff.2 h1, h2⟩⟩
end Go.Proofs.Ytaiijdnfimclbaa
