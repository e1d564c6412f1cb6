/-
  The document's byLo, walked. Condition: a list has at most 2^32 spans.
-/
import Derived.Test.YtaiijdnfimclbaaRef3
namespace Go.Proofs.Ytaiijdnfimclbaa
open Go.RowKit Go.Lib

theorem byLo_end {L A B O A1 B1 : List Spn} {w w1 w2 w9 : World} {v9 : Value} {m : Nat} (h2 : 2 ≤ L.length) (ho : OwnS w9 w2.heap.size v9 (O ++ A1 ++ B1)) (hl : O.length + A1.length + B1.length = L.length)
    (hd : (O ++ A1 ++ B1).Perm (A ++ B) ∧ Sorted1 (O ++ A1 ++ B1)) (x1 : Below w.heap.size w w1) (x2 : Below w1.heap.size w1 w2) (x3 : Below w2.heap.size w2 w9) (pa : A.Perm (L.take m)) (pb : B.Perm (L.drop m)) : ByLo L w (.returned v9) w9 := by
  have hll : (O ++ A1 ++ B1).length = L.length := by rw [List.length_append, List.length_append]; exact hl
  obtain ⟨ao, c, e, hat, _⟩ := ho.shape
  have hc : (O ++ A1 ++ B1).length ≤ c := by
    have hh : w9.ownsRow w2.heap.size 59 2 v9 (O ++ A1 ++ B1).length (spCells (O ++ A1 ++ B1)) := ho
    rcases hh.2 with ⟨_, hn⟩ | ⟨g, cap, cur, e', _, _, hle, _⟩
    · omega
    · rw [e] at e'; cases e'; exact hle
  have hp : (A ++ B).Perm L := by
    have := pa.append pb
    rwa [List.take_append_drop] at this
  cases ao with
  | none =>
    rcases hat with h | ⟨_, _, e', _⟩
    · rw [h] at hll; simp at hll; omega
    · cases e'
  | some a => exact ⟨a, c, _, by rw [e], hd.1.trans hp, hd.2, hat, hc, (x1.trans (x2.mono x1.size)).trans (x3.mono (Nat.le_trans x1.size x2.size))⟩

set_option maxRecDepth 100000 in
set_option maxHeartbeats 4000000 in
theorem byLo_any : ∀ (n : Nat) (L : List Spn), L.length ≤ n → ∀ (a : Addr) (cap : Nat) (w : World), SpAt w (some a) L → L.length ≤ cap → L.length ≤ 4294967296 →
    Calls Try.prog 65 #[.slice (some a) L.length cap] w fun e w' => ByLo L w e w' := by
  intro n
  induction n with
  | zero =>
    intro L hL a cap w hat hc h32
    have hL0 := List.length_eq_zero_iff.1 (Nat.le_zero.1 hL)
    subst hL0
    simp only [List.length_nil] at *
    go_enter Try.func65, Try.ntmps65
    go_wp2
    go_ret
    exact ⟨a, cap, [], rfl, List.Perm.refl _, List.Pairwise.nil, .inl rfl, Nat.zero_le _, Below.refl _ _⟩
  | succ n ih =>
    intro L hL a cap w hat hc h32
    by_cases h2 : L.length < 2
    · have h2' : (L.length : Int) < 2 := by omega
      have hso : Sorted1 L := by
        match L, h2 with
        | [], _ => exact List.Pairwise.nil
        | [x], _ => exact List.pairwise_singleton ..
      have HAT := hide hat
      have HSO := hide hso
      clear hat hso ih
      go_enter Try.func65, Try.ntmps65
      go_wp2
      go_ret
      exact ⟨a, cap, L, rfl, List.Perm.refl _, HSO.out, HAT.out, hc, Below.refl _ _⟩
    · obtain ⟨b, off, e, hb, _⟩ := hat.get (i := 0) (by omega)
      cases e
      obtain ⟨m, hm⟩ : ∃ m, m = L.length / 2 := ⟨_, rfl⟩
      have hm1 : 1 ≤ m := by omega
      have hm2 : m < L.length := by omega
      have tl : (L.take m).length = m := by rw [List.length_take]; omega
      have dl : (L.drop m).length = L.length - m := by rw [List.length_drop]
      have c1 := ih (L.take m) (by omega) ⟨b, off, none⟩ cap w (hat.take m) (by omega) (by omega)
      have c2 := fun (W : World) (h1 : Below w.heap.size w W) => ih (L.drop m) (by omega) ⟨b, off + m * 2, none⟩ (cap - m) W ((hat.drop m).below h1) (by omega) (by omega)
      rw [tl] at c1
      rw [dl] at c2
      have hq : (L.length : Int) / 2 = (m : Int) := by omega
      have i1 : (0 : Int) ≤ (m : Int) := by omega
      have i2 : (m : Int) ≤ (cap : Int) := by omega
      have i3 : (m : Int) ≤ (L.length : Int) := by omega
      have i4 : (L.length : Int) ≤ (cap : Int) := by omega
      have i5 : (m : Int) < (cap : Int) := by omega
      have hn2 : ¬ (L.length : Int) < 2 := by omega
      have HM := hide hm
      have HC1 := hide c1
      have HC2 := hide c2
      clear hat ih hm tl dl c1 c2
      go_enter Try.func65, Try.ntmps65
      go_wp2_with (first
        | (go_at_call 65; have hb1 := X1.out; refine (HC2.out w1 hb1).mono ?_; rintro e w2 ⟨aB, cB, B, he, pB, sB, atB, lB, x2⟩; subst he; have X2 := hide x2; have PB := hide pB; have SB := hide sB; have ATB := hide atB; clear x2 pB sB atB hb1)
        | (go_at_call 65; refine HC1.out.mono ?_; rintro e w1 ⟨aA, cA, A, he, pA, sA, atA, lA, x1⟩; subst he; have X1 := hide x1; have PA := hide pA; have SA := hide sA; have ATA := hide atA; clear x1 pA sA atA))
      have hmg0 : Mg A B A B [] := ⟨by simp, List.Pairwise.nil, SA.out, SB.out, by simp, by simp⟩
      have HMG0 := hide hmg0
      have HAT2 := hide (ATA.out.below X2.out)
      have lAB : A.length + B.length = L.length := by
        have h1 := PA.out.length_eq
        have h2 := PB.out.length_eq
        rw [List.length_take] at h1
        rw [List.length_drop] at h2
        omega
      clear hmg0
      obtain ⟨i0, hi, hz0, hz1, hz2⟩ := Try.info59'
      go_loopw [3, 4, 5] (fun va vb vo wq => ∃ (a1 : Addr) (c1 : Nat) (A1 : List Spn) (b1 : Addr) (d1 : Nat) (B1 O : List Spn), va = .slice (some a1) A1.length c1 ∧ vb = .slice (some b1) B1.length d1 ∧ A1.length ≤ c1 ∧ B1.length ≤ d1 ∧ Hid (Mg A B A1 B1 O) ∧ Hid (SpAt w2 (some a1) A1) ∧ Hid (SpAt w2 (some b1) B1) ∧ Hid (OwnS wq w2.heap.size vo O) ∧ Below w2.heap.size w2 wq) (fun va vb _ _ => lenOf va + lenOf vb)
      case atStart => exact ⟨aA, cA, A, aB, cB, B, [], rfl, rfl, lA, lB, HMG0, HAT2, ATB, OwnS.nil _ _, Below.refl _ _⟩
      case round =>
        obtain ⟨a1, c1, A1, b1, d1, B1, O, e1, e2, l1, l2, MG, P1, P2, OW, bq⟩ := hrel
        have BQ := hide bq
        clear bq
        subst e1; subst e2
        have lO : O.length + A1.length + B1.length = L.length := by have := MG.out.perm.length_eq; rw [List.length_append, List.length_append, List.length_append] at this; omega
        have h2' : 2 ≤ L.length := by omega
        match A1, l1, MG, P1, lO with
        | [], l1, MG, P1, lO =>
          simp only [List.length_nil] at lO ⊢
          have lm : O.length + (([] : List Spn)).length + (B1).length = L.length := by have := MG.out.perm.length_eq; rw [List.length_append, List.length_append, List.length_append] at this; omega
          have hdn := MG.out.done (.inl rfl)
          have FIN1 : Hid (∀ w8 v8, w8.ownsRow w2.heap.size 59 2 v8 (O.length + (([] : List Spn)).length) (spCells O ++ spCells (([] : List Spn))) → World.grownBy wr w8 u5.ownBlock → (w8.ownsRow w2.heap.size 59 2 v8 (O.length + (([] : List Spn)).length) (spCells O ++ spCells (([] : List Spn)))) ∧ Below w2.heap.size w2 w8 ∧ (∀ j u, (spCells (B1))[j]? = some u → w8.cell? (b1.add j) = some u)) := fun w8 v8 h1 h2 => by
            have b8 : Below w2.heap.size w2 w8 := BQ.out.grown h2 BQ.out.size (fun i hi => (OW.out.lt i hi).1)
            exact ⟨h1, b8, (P2.out.below b8).cells⟩
          have FIN2 : Hid (∀ w8 v8 w9 v9, w8.ownsRow w2.heap.size 59 2 v8 (O.length + (([] : List Spn)).length) (spCells O ++ spCells (([] : List Spn))) → Below w2.heap.size w2 w8 → w9.ownsRow w2.heap.size 59 2 v9 (O.length + (([] : List Spn)).length + (B1).length) (spCells O ++ spCells (([] : List Spn)) ++ spCells (B1)) → World.grownBy w8 w9 v8.ownBlock → ByLo L w (.returned v9) w9) := fun w8 v8 w9 v9 h1 h2 h3 h4 => by
            have b9 : Below w2.heap.size w2 w9 := h2.grown h4 h2.size (fun i hi => (World.ownsRow.lt h1 i hi).1)
            have ho : OwnS w9 w2.heap.size v9 (O ++ ([] : List Spn) ++ B1) := by unfold OwnS; rw [spCells_append, spCells_append, List.length_append, List.length_append]; exact h3
            exact byLo_end h2' ho lm hdn X1.out X2.out b9 PA.out PB.out
          have HNA := hide (P1.out.below BQ.out).cells
          have HLA := hide (spCells_length (([] : List Spn)))
          have HLB := hide (spCells_length (B1))
          clear hdn
          go_wp2_with (first
            | (at_builtin; refine wpList_append_own_at _ rfl (.tmp 55) (.tmp 56) 42 rfl w2.heap.size 59 i0 (.agg #[.int .i64 0, .int .i64 0]) 2 16 Try.underlying42 hi hz0 hz1 hz2 rfl (by decide) _ O.length (spCells O) rfl OW.out a1 (([] : List Spn)).length c1 (spCells (([] : List Spn))) rfl HLA.out HNA.out (spCells_one (([] : List Spn))) (by unfold maxLen; omega) (by omega) BQ.out.size ?_; intro v8 w8 h1 h2 _ h3; obtain ⟨f1, f2, f3⟩ := FIN1.out w8 v8 h1 h2; have F1 := hide f1; have F2 := hide f2; have F3 := hide f3; clear h1 h2 h3 f1 f2 f3)
            | (at_builtin; refine wpList_append_own_at _ rfl (.tmp 58) (.tmp 59) 42 rfl w2.heap.size 59 i0 (.agg #[.int .i64 0, .int .i64 0]) 2 16 Try.underlying42 hi hz0 hz1 hz2 rfl (by decide) _ (O.length + (([] : List Spn)).length) (spCells O ++ spCells (([] : List Spn))) rfl F1.out b1 (B1).length d1 (spCells (B1)) rfl HLB.out F3.out (spCells_one (B1)) (by unfold maxLen; omega) (by omega) F2.out.size ?_; intro v9 w9 h1 h2 _ h3; have F9 := hide (FIN2.out _ _ w9 v9 F1.out F2.out h1 h2); clear h1 h2 h3))
          go_ret
          exact F9.out
        | x :: A1, l1, MG, P1, lO =>
          match B1, l2, MG, P2, lO with
          | [], l2, MG, P2, lO =>
            simp only [List.length_nil, List.length_cons] at lO ⊢
            have lm : O.length + (x :: A1).length + (([] : List Spn)).length = L.length := by have := MG.out.perm.length_eq; rw [List.length_append, List.length_append, List.length_append] at this; omega
            have hdn := MG.out.done (.inr rfl)
            have FIN1 : Hid (∀ w8 v8, w8.ownsRow w2.heap.size 59 2 v8 (O.length + (x :: A1).length) (spCells O ++ spCells (x :: A1)) → World.grownBy wr w8 u5.ownBlock → (w8.ownsRow w2.heap.size 59 2 v8 (O.length + (x :: A1).length) (spCells O ++ spCells (x :: A1))) ∧ Below w2.heap.size w2 w8 ∧ (∀ j u, (spCells (([] : List Spn)))[j]? = some u → w8.cell? (b1.add j) = some u)) := fun w8 v8 h1 h2 => by
              have b8 : Below w2.heap.size w2 w8 := BQ.out.grown h2 BQ.out.size (fun i hi => (OW.out.lt i hi).1)
              exact ⟨h1, b8, (P2.out.below b8).cells⟩
            have FIN2 : Hid (∀ w8 v8 w9 v9, w8.ownsRow w2.heap.size 59 2 v8 (O.length + (x :: A1).length) (spCells O ++ spCells (x :: A1)) → Below w2.heap.size w2 w8 → w9.ownsRow w2.heap.size 59 2 v9 (O.length + (x :: A1).length + (([] : List Spn)).length) (spCells O ++ spCells (x :: A1) ++ spCells (([] : List Spn))) → World.grownBy w8 w9 v8.ownBlock → ByLo L w (.returned v9) w9) := fun w8 v8 w9 v9 h1 h2 h3 h4 => by
              have b9 : Below w2.heap.size w2 w9 := h2.grown h4 h2.size (fun i hi => (World.ownsRow.lt h1 i hi).1)
              have ho : OwnS w9 w2.heap.size v9 (O ++ x :: A1 ++ ([] : List Spn)) := by unfold OwnS; rw [spCells_append, spCells_append, List.length_append, List.length_append]; exact h3
              exact byLo_end h2' ho lm hdn X1.out X2.out b9 PA.out PB.out
            have HNA := hide (P1.out.below BQ.out).cells
            have HLA := hide (spCells_length (x :: A1))
            have HLB := hide (spCells_length (([] : List Spn)))
            clear hdn
            go_wp2_with (first
              | (at_builtin; refine wpList_append_own_at _ rfl (.tmp 55) (.tmp 56) 42 rfl w2.heap.size 59 i0 (.agg #[.int .i64 0, .int .i64 0]) 2 16 Try.underlying42 hi hz0 hz1 hz2 rfl (by decide) _ O.length (spCells O) rfl OW.out a1 (x :: A1).length c1 (spCells (x :: A1)) rfl HLA.out HNA.out (spCells_one (x :: A1)) (by unfold maxLen; omega) (by omega) BQ.out.size ?_; intro v8 w8 h1 h2 _ h3; obtain ⟨f1, f2, f3⟩ := FIN1.out w8 v8 h1 h2; have F1 := hide f1; have F2 := hide f2; have F3 := hide f3; clear h1 h2 h3 f1 f2 f3)
              | (at_builtin; refine wpList_append_own_at _ rfl (.tmp 58) (.tmp 59) 42 rfl w2.heap.size 59 i0 (.agg #[.int .i64 0, .int .i64 0]) 2 16 Try.underlying42 hi hz0 hz1 hz2 rfl (by decide) _ (O.length + (x :: A1).length) (spCells O ++ spCells (x :: A1)) rfl F1.out b1 (([] : List Spn)).length d1 (spCells (([] : List Spn))) rfl HLB.out F3.out (spCells_one (([] : List Spn))) (by unfold maxLen; omega) (by omega) F2.out.size ?_; intro v9 w9 h1 h2 _ h3; have F9 := hide (FIN2.out _ _ w9 v9 F1.out F2.out h1 h2); clear h1 h2 h3))
            go_ret
            exact F9.out
          | y :: B1, l2, MG, P2, lO =>
            simp only [List.length_cons] at lO l1 l2 ⊢
            obtain ⟨ba, oa, e, hba, ca⟩ := P1.out.get (i := 0) (by simp)
            cases e
            obtain ⟨bb, ob, e, hbb, cb⟩ := P2.out.get (i := 0) (by simp)
            cases e
            obtain ⟨q1, q1b⟩ := (ca 0 (by simp)).below BQ.out hba
            obtain ⟨q2, q2b⟩ := (cb 0 (by simp)).below BQ.out hbb
            simp only [Nat.zero_mul, Nat.add_zero, List.getD_cons_zero] at q1 q1b q2 q2b
            have hba' : ba < wr.heap.size := Nat.lt_of_lt_of_le hba BQ.out.size
            have hbb' : bb < wr.heap.size := Nat.lt_of_lt_of_le hbb BQ.out.size
            clear ca cb
            have HD : Hid (Below wr.heap.size wr wr.drew) := (Below.refl _ _).drew
            go_wp2
            by_cases hxy : x.1 ≤ y.1
            · have HMG := hide (MG.out.left hxy)
              have hgd : decide (x.1 ≤ y.1) = true := decide_eq_true hxy
              refine wp_region_quiet (C := fun w' => Below wr.heap.size wr w') (by kernel_rfl) (by kernel_rfl) HD.out ?_
              refine QW.out (l := _ :: _) ?_
              iterate 9 (refine QW.take (by rfl) ?_; apply Exists.intro; refine ⟨fun w' hw' => ?_, ?_⟩; (· (have g1 := (hw'.cell (p := ⟨ba, oa, none⟩) hba').trans q1; have g2 := (hw'.cell (p := ⟨bb, ob, none⟩) hbb').trans q2; go_simp; first | done | ((try simp only [hgd]); first | done | rfl))); try simp only [Act.put, List.setIfInBounds_toArray, List.set_cons_zero, List.set_cons_succ])
              refine QW.nil ?_
              intro w5 x5
              clear HD
              have r1 := (x5.cell (p := ⟨ba, oa, none⟩) hba').trans q1
              have r2 := (x5.cell (p := ⟨ba, oa + 1, none⟩) hba').trans q1b
              have hb5 : Below w2.heap.size w2 w5 := BQ.out.trans (x5.mono BQ.out.size)
              have hb6 : Below w2.heap.size w2 (w5.alloc (.cells #[.int .i64 x.1, .int .i64 x.2] 59)) := hb5.alloc hb5.size _
              have hx6 : Below wr.heap.size wr (w5.alloc (.cells #[.int .i64 x.1, .int .i64 x.2] 59)) := x5.alloc x5.size _
              have HB6 := hide hb6
              have HO6 := hide (OW.out.below hx6)
              have HN := hide (new_cells w5 x w5.heap.size rfl)
              have FIN : Hid (∀ w8 v8, w8.ownsRow w2.heap.size 59 2 v8 (O.length + 1) (spCells O ++ [.int .i64 x.1, .int .i64 x.2]) → World.grownBy (w5.alloc (.cells #[.int .i64 x.1, .int .i64 x.2] 59)) w8 u5.ownBlock → OwnS w8 w2.heap.size v8 (O ++ [x]) ∧ Below w2.heap.size w2 w8) := fun w8 v8 h1 h2 => by
                refine ⟨?_, HB6.out.grown h2 HB6.out.size (fun i hi => (HO6.out.lt i hi).1)⟩
                unfold OwnS
                rw [spCells_snoc, List.length_append]
                exact h1
              have PT : Hid (SpAt w2 (some ⟨ba, oa + 2, none⟩) A1) := hide (P1.out.drop 1)
              clear hb5 hb6 hx6 x5 q1 q2 q1b q2b MG
              have s1 : (1 : Int) ≤ ((A1.length : Int) + 1) := by omega
              have s2 : ((A1.length : Int) + 1) ≤ (c1 : Int) := by omega
              by_cases hc1 : c1 = 1
              · have hA0 : A1 = [] := List.length_eq_zero_iff.1 (by omega)
                subst hA0; subst hc1
                simp only [List.length_nil] at *
                go_wp2_with (at_builtin; refine wpList_append_own_at _ rfl (.tmp 39) (.tmp 43) 42 rfl w2.heap.size 59 i0 (.agg #[.int .i64 0, .int .i64 0]) 2 16 Try.underlying42 hi hz0 hz1 hz2 rfl (by decide) _ O.length (spCells O) rfl HO6.out ⟨w5.heap.size, 0, none⟩ 1 1 ([.int .i64 x.1, .int .i64 x.2]) rfl rfl HN.out (by simp [Value.oneCell']) (by unfold maxLen; omega) (by omega) HB6.out.size ?_; intro v8 w8 h1 h2 _ h3; obtain ⟨f1, f2⟩ := FIN.out w8 v8 h1 h2; have F1 := hide f1; have F2 := hide f2; clear h1 h2 h3 f1 f2)
                go_roundw
                case rel => exact ⟨_, _, [], _, d1, y :: B1, O ++ [x], rfl, by rw [List.length_cons], Nat.zero_le _, by rw [List.length_cons]; omega, HMG.out, .inl rfl, P2.out, F1.out, F2.out⟩
                case measure => simp [lenOf]
              · have s3 : (1 : Int) < (c1 : Int) := by omega
                go_wp2_with (at_builtin; refine wpList_append_own_at _ rfl (.tmp 39) (.tmp 43) 42 rfl w2.heap.size 59 i0 (.agg #[.int .i64 0, .int .i64 0]) 2 16 Try.underlying42 hi hz0 hz1 hz2 rfl (by decide) _ O.length (spCells O) rfl HO6.out ⟨w5.heap.size, 0, none⟩ 1 1 ([.int .i64 x.1, .int .i64 x.2]) rfl rfl HN.out (by simp [Value.oneCell']) (by unfold maxLen; omega) (by omega) HB6.out.size ?_; intro v8 w8 h1 h2 _ h3; obtain ⟨f1, f2⟩ := FIN.out w8 v8 h1 h2; have F1 := hide f1; have F2 := hide f2; clear h1 h2 h3 f1 f2)
                go_roundw
                case rel => exact ⟨_, _, A1, _, d1, y :: B1, O ++ [x], rfl, by rw [List.length_cons], by omega, by rw [List.length_cons]; omega, HMG.out, PT.out, P2.out, F1.out, F2.out⟩
                case measure => simp [lenOf]
            · have HMG := hide (MG.out.right hxy)
              have hgd : decide (x.1 ≤ y.1) = false := decide_eq_false hxy
              refine wp_region_quiet (C := fun w' => Below wr.heap.size wr w') (by kernel_rfl) (by kernel_rfl) HD.out ?_
              refine QW.out (l := _ :: _) ?_
              iterate 9 (refine QW.take (by rfl) ?_; apply Exists.intro; refine ⟨fun w' hw' => ?_, ?_⟩; (· (have g1 := (hw'.cell (p := ⟨ba, oa, none⟩) hba').trans q1; have g2 := (hw'.cell (p := ⟨bb, ob, none⟩) hbb').trans q2; go_simp; first | done | ((try simp only [hgd]); first | done | rfl))); try simp only [Act.put, List.setIfInBounds_toArray, List.set_cons_zero, List.set_cons_succ])
              refine QW.nil ?_
              intro w5 x5
              clear HD
              have r1 := (x5.cell (p := ⟨bb, ob, none⟩) hbb').trans q2
              have r2 := (x5.cell (p := ⟨bb, ob + 1, none⟩) hbb').trans q2b
              have hb5 : Below w2.heap.size w2 w5 := BQ.out.trans (x5.mono BQ.out.size)
              have hb6 : Below w2.heap.size w2 (w5.alloc (.cells #[.int .i64 y.1, .int .i64 y.2] 59)) := hb5.alloc hb5.size _
              have hx6 : Below wr.heap.size wr (w5.alloc (.cells #[.int .i64 y.1, .int .i64 y.2] 59)) := x5.alloc x5.size _
              have HB6 := hide hb6
              have HO6 := hide (OW.out.below hx6)
              have HN := hide (new_cells w5 y w5.heap.size rfl)
              have FIN : Hid (∀ w8 v8, w8.ownsRow w2.heap.size 59 2 v8 (O.length + 1) (spCells O ++ [.int .i64 y.1, .int .i64 y.2]) → World.grownBy (w5.alloc (.cells #[.int .i64 y.1, .int .i64 y.2] 59)) w8 u5.ownBlock → OwnS w8 w2.heap.size v8 (O ++ [y]) ∧ Below w2.heap.size w2 w8) := fun w8 v8 h1 h2 => by
                refine ⟨?_, HB6.out.grown h2 HB6.out.size (fun i hi => (HO6.out.lt i hi).1)⟩
                unfold OwnS
                rw [spCells_snoc, List.length_append]
                exact h1
              have PT : Hid (SpAt w2 (some ⟨bb, ob + 2, none⟩) B1) := hide (P2.out.drop 1)
              clear hb5 hb6 hx6 x5 q1 q2 q1b q2b MG
              have s1 : (1 : Int) ≤ ((B1.length : Int) + 1) := by omega
              have s2 : ((B1.length : Int) + 1) ≤ (d1 : Int) := by omega
              by_cases hc1 : d1 = 1
              · have hA0 : B1 = [] := List.length_eq_zero_iff.1 (by omega)
                subst hA0; subst hc1
                simp only [List.length_nil] at *
                go_wp2_with (at_builtin; refine wpList_append_own_at _ rfl (.tmp 47) (.tmp 51) 42 rfl w2.heap.size 59 i0 (.agg #[.int .i64 0, .int .i64 0]) 2 16 Try.underlying42 hi hz0 hz1 hz2 rfl (by decide) _ O.length (spCells O) rfl HO6.out ⟨w5.heap.size, 0, none⟩ 1 1 ([.int .i64 y.1, .int .i64 y.2]) rfl rfl HN.out (by simp [Value.oneCell']) (by unfold maxLen; omega) (by omega) HB6.out.size ?_; intro v8 w8 h1 h2 _ h3; obtain ⟨f1, f2⟩ := FIN.out w8 v8 h1 h2; have F1 := hide f1; have F2 := hide f2; clear h1 h2 h3 f1 f2)
                go_roundw
                case rel => exact ⟨_, c1, x :: A1, _, _, [], O ++ [y], by rw [List.length_cons], rfl, by rw [List.length_cons]; omega, Nat.zero_le _, HMG.out, P1.out, .inl rfl, F1.out, F2.out⟩
                case measure => simp [lenOf]
              · have s3 : (1 : Int) < (d1 : Int) := by omega
                go_wp2_with (at_builtin; refine wpList_append_own_at _ rfl (.tmp 47) (.tmp 51) 42 rfl w2.heap.size 59 i0 (.agg #[.int .i64 0, .int .i64 0]) 2 16 Try.underlying42 hi hz0 hz1 hz2 rfl (by decide) _ O.length (spCells O) rfl HO6.out ⟨w5.heap.size, 0, none⟩ 1 1 ([.int .i64 y.1, .int .i64 y.2]) rfl rfl HN.out (by simp [Value.oneCell']) (by unfold maxLen; omega) (by omega) HB6.out.size ?_; intro v8 w8 h1 h2 _ h3; obtain ⟨f1, f2⟩ := FIN.out w8 v8 h1 h2; have F1 := hide f1; have F2 := hide f2; clear h1 h2 h3 f1 f2)
                go_roundw
                case rel => exact ⟨_, c1, x :: A1, _, _, B1, O ++ [y], by rw [List.length_cons], rfl, by rw [List.length_cons]; omega, by omega, HMG.out, P1.out, PT.out, F1.out, F2.out⟩
                case measure => simp [lenOf]
end Go.Proofs.Ytaiijdnfimclbaa
