/-
  The document's New by its contract. Condition: lists no longer than a process can hold.
-/
import Derived.Test.YtaafeflbanoncaaP24
import Derived.Deep.CutBlock
import Derived.Test.YtaafeflbanoncaaP11
import Derived.Test.YtaafeflbanoncaaP25
import Derived.Test.YtaafeflbanoncaaP26
namespace Go.Proofs.Ytaafeflbanoncaa
open Go.RowKit Go.Lib Go.Maps

theorem Try.info22 : (Try.prog.info? 22).map (fun i => (i.zero, i.size, i.bytes)) = some (some (.slice none 0 0), 1, 24) := by kernel_rfl
/-- While it is made. -/
structure NwS (w0 : World) (x : Nat) (M : Int) (A : List Int) (k : Nat) (sv lv : Value) (w : World) : Prop where
  blk : w.heap[x]? = some (.cells #[sv, .int .i64 M, .slice none 0 0, lv] 78 (0, 0))
  ge : w0.heap.size ≤ x
  s : w.ownsRow w0.heap.size 3 1 sv k (zC (A.take k))
  l : w.ownsRow w0.heap.size 22 1 lv k (List.replicate k (.slice none 0 0))
  bel : Below w0.heap.size w0 w
section
variable {w0 w w' : World} {x k : Nat} {M : Int} {A : List Int} {sv lv : Value}
theorem NwS.below (h : NwS w0 x M A k sv lv w) (y : Below w.heap.size w w') : NwS w0 x M A k sv lv w' :=
  ⟨(y.block x (lt_of_block h.blk)).trans h.blk, h.ge, own_below h.s y, own_below h.l y, bt h.bel y (Nat.le_refl _)⟩
/-- A size more. -/
theorem NwS.addS (h : NwS w0 x M A k sv lv w) {sv' : Value} {xs : List Value} {m : Nat} (k1 : Kept (fun j => sv.ownBlock = some j) w w') (o1 : w'.ownsRow w0.heap.size 3 1 sv' m xs) (hn : ∀ j, sv'.ownBlock = some j → sv.ownBlock = some j ∨ w.heap.size ≤ j) :
    (w'.setCell ⟨x, 0, none⟩ sv').heap[x]? = some (.cells #[sv', .int .i64 M, .slice none 0 0, lv] 78 (0, 0)) ∧ (w'.setCell ⟨x, 0, none⟩ sv').ownsRow w0.heap.size 3 1 sv' m xs ∧ (w'.setCell ⟨x, 0, none⟩ sv').ownsRow w0.heap.size 22 1 lv k (List.replicate k (.slice none 0 0)) ∧ Below w0.heap.size w0 (w'.setCell ⟨x, 0, none⟩ sv') ∧ w'.heap[x]? = some (.cells #[sv, .int .i64 M, .slice none 0 0, lv] 78 (0, 0)) := by
  have hsx : ¬ sv.ownBlock = some x := fun hF => by
    obtain ⟨cs, h5⟩ := own_ty h.s _ hF
    exact blocks_ne h.blk h5 (by decide) rfl
  have hb1 := (k1.block x (lt_of_block h.blk) hsx).trans h.blk
  have k3 : Kept (fun k => k = x) w' (w'.setCell ⟨x, 0, none⟩ sv') := Kept.setCell (F := fun k => k = x) (p := ⟨x, 0, none⟩) (Kept.refl _ _) rfl _
  refine ⟨?_, own_kept o1 k3 (fun j hj e => ?_), own_kept (own_kept h.l k1 (fun j h1 h2 => own_ne h.l h.s (by decide) j h1 h2)) k3 (fun j hj e => ?_), ?_, hb1⟩
  · have := block_setCell hb1 0 sv'
    simpa using this
  · subst e
    rcases hn _ hj with h5 | h5
    · exact hsx h5
    · have := lt_of_block h.blk; omega
  · subst e
    obtain ⟨cs, h5⟩ := own_ty h.l _ hj
    exact blocks_ne h.blk h5 (by decide) rfl
  · exact (h.bel.trans (k1.below h.bel.size (fun j hj => (World.ownsRow.lt h.s j hj).1))).trans (k3.below (Nat.le_trans h.bel.size k1.size) (fun j hj => by rw [hj]; exact h.ge))
end
/-- What New tells. -/
def NwL (A : List Int) (M : Int) (w : World) (e : Ending) (w' : World) (L : Nat → (Nat → Prop) → World → Prop) : Prop :=
  ((SzOk A ∧ 0 ≤ M ∧ M ≤ 8192 ∧ ∃ x P, e = .returned (.tuple #[.pointer (some ⟨x, 0, none⟩), .int .i64 0]) ∧ L x P w' ∧ ∀ k, P k → w.heap.size ≤ k) ∨ (¬ (SzOk A ∧ 0 ≤ M ∧ M ≤ 8192) ∧ e = .returned (.tuple #[.pointer none, .int .i64 1]))) ∧ Below w.heap.size w w'
theorem newC_any (ao : Option Addr) (cap : Nat) (A : List Int) (M : Int) (w : World) (hl : A.length ≤ 140737488351232) (hz : ZAt w ao A) :
    Calls Try.prog 7 #[.slice ao A.length cap, .int .i64 M] w fun e w' => NwL A M w e w' (fun a P V => CA V a A M [] 0 P) := new_any ao cap A M w hl hz
set_option maxRecDepth 100000 in
set_option maxHeartbeats 4000000 in
theorem newD_any (ao : Option Addr) (cap : Nat) (A : List Int) (M : Int) (w : World) (hl : A.length ≤ 140737488351232) (hz : ZAt w ao A) :
    Calls Try.prog 8 #[.slice ao A.length cap, .int .i64 M] w fun e w' => NwL A M w e w' (fun x P V => RA V x A M [] P) := by
  have HZ := hide hz
  clear hz
  by_cases a0 : A.length < 1
  · have HD : Hid (¬ (SzOk A ∧ 0 ≤ M ∧ M ≤ 8192)) := fun h => by have := h.1.ge; omega
    have a0' : (A.length : Int) < 1 := by omega
    go_enter Try.func8, Try.ntmps8
    go_wp2
    go_ret2
    exact ⟨.inr ⟨HD.out, rfl⟩, Below.refl _ _⟩
  have a0' : ¬ (A.length : Int) < 1 := by omega
  by_cases a1 : 12 < A.length
  · have HD : Hid (¬ (SzOk A ∧ 0 ≤ M ∧ M ≤ 8192)) := fun h => by have := h.1.le; omega
    have a1' : (12 : Int) < (A.length : Int) := by omega
    go_enter Try.func8, Try.ntmps8
    go_wp2
    go_ret2
    exact ⟨.inr ⟨HD.out, rfl⟩, Below.refl _ _⟩
  have a1' : ¬ (12 : Int) < (A.length : Int) := by omega
  by_cases a2 : M < 0
  · have HD : Hid (¬ (SzOk A ∧ 0 ≤ M ∧ M ≤ 8192)) := fun h => by have := h.2.1; omega
    go_enter Try.func8, Try.ntmps8
    go_wp2
    go_ret2
    exact ⟨.inr ⟨HD.out, rfl⟩, Below.refl _ _⟩
  by_cases a3 : 8192 < M
  · have HD : Hid (¬ (SzOk A ∧ 0 ≤ M ∧ M ≤ 8192)) := fun h => by have := h.2.2; omega
    go_enter Try.func8, Try.ntmps8
    go_wp2
    go_ret2
    exact ⟨.inr ⟨HD.out, rfl⟩, Below.refl _ _⟩
  obtain ⟨i3, hi3, hz30, hz31, hz32⟩ := info_parts Try.info3
  obtain ⟨i22, hi22, hy0, hy1, hy2⟩ := info_parts Try.info22
  have S1 : Hid (NwS w w.heap.size M A 0 (.slice none 0 0) (.slice none 0 0) (w.alloc (.cells #[.slice none 0 0, .int .i64 M, .slice none 0 0, .slice none 0 0] 78))) := ⟨heap_alloc_new _ _, Nat.le_refl _, World.ownsRow_nil _ _ _ _, World.ownsRow_nil _ _ _ _, al (Below.refl _ _) _⟩
  go_enter Try.func8, Try.ntmps8
  go_upto_region 4 with fail
  obtain ⟨x, hx⟩ : ∃ x, x = w.heap.size := ⟨_, rfl⟩
  rw [← hx]
  have HX := hide hx
  rw [← HX.out] at S1
  have HXL : Hid (∀ j : Nat, w.heap.size ≤ j ↔ x ≤ j) := by unfold Hid; rw [hx]; exact fun j => Iff.rfl
  clear hx
  generalize w.alloc (.cells #[.slice none 0 0, .int .i64 M, .slice none 0 0, .slice none 0 0] 78) = w1 at *
  go_wp2
  go_loopw [7] (fun y wr => ∃ k : Nat, k ≤ A.length ∧ y = .int .i64 k ∧ ∃ sv lv, Hid (NwS w x M A k sv lv wr) ∧ Hid (∀ i, i < k → 1 ≤ A.getD i 0 ∧ A.getD i 0 ≤ 256)) (fun y _ => A.length - (RowKit.intOf y).toNat)
  case atStart => exact ⟨0, Nat.zero_le _, rfl, _, _, S1, fun i h => by omega⟩
  case round =>
    obtain ⟨k, hk, rfl, sv, lv, S2, HE⟩ := hrel
    clear S1
    by_cases hlt : k < A.length
    · have hlt' : (k : Int) < A.length := by omega
      obtain ⟨b1, o1, rfl, hb1, g1⟩ := HZ.out.get hlt
      have q1 := (S2.out.bel.cell (p := ⟨b1, o1 + k, none⟩) hb1).trans g1
      have HB1 : Hid (∀ V, Below w.heap.size w V → V.cell? ⟨b1, o1 + k, none⟩ = some (.int .i64 (A.getD k 0))) := fun V y => (y.cell (p := ⟨b1, o1 + k, none⟩) hb1).trans g1
      have HTS := hide (take_snoc hlt)
      clear g1
      by_cases he : 1 ≤ A.getD k 0 ∧ A.getD k 0 ≤ 256
      · have HE2 : Hid (∀ i, i < k + 1 → 1 ≤ A.getD i 0 ∧ A.getD i 0 ≤ 256) := fun i hi => by
          rcases Nat.lt_or_ge i k with h | h
          · exact HE.out i h
          · obtain rfl : i = k := by omega
            exact he
        clear HE
        generalize A.getD k 0 = v at *
        have e1 : ¬ v < 1 := by omega
        have e2 : ¬ 256 < v := by omega
        clear he
        obtain ⟨sa, scp, hsv, _⟩ := own_shape S2.out.s
        subst hsv
        obtain ⟨la, lcp, hlv, _⟩ := own_shape S2.out.l
        subst hlv
        go_upto_region 9 with fail
        have yd : Below wr.heap.size wr wr.drew := (Below.refl _ _).drew
        have S3 := hide (S2.out.below yd)
        have HS0 : Hid (wr.drew.cell? ⟨x, 0, none⟩ = some (.slice sa k scp) ∧ wr.drew.cell? ⟨b1, o1 + k, none⟩ = some (.int .i64 v)) := ⟨by rw [cell_of_row _ x 0 _ _ _ S3.out.blk]; rfl, HB1.out _ S3.out.bel⟩
        clear S2 yd q1
        refine wp_unt (S := fun V => V.cell? ⟨x, 0, none⟩ = some (.slice sa k scp) ∧ V.cell? ⟨b1, o1 + k, none⟩ = some (.int .i64 v)) 13 (by kernel_rfl) ?_
        generalize wr.drew = wd at *
        refine UntH.take (i := 0) (some 45) rfl rfl (by kernel_rfl) (by kernel_rfl) (by kernel_rfl) (by kernel_rfl) (fun _ _ _ _ h => h) (by rfl) HS0.out ?_
        apply Exists.intro
        refine ⟨fun w' hw' => ?_, ?_⟩
        · obtain ⟨q0, q1⟩ := hw'
          go_simp
          first | done | rfl
        try simp only [Act.put, List.setIfInBounds_toArray, List.set_cons_zero, List.set_cons_succ]
        refine UntH.take (i := 1) (some 46) rfl rfl (by kernel_rfl) (by kernel_rfl) (by kernel_rfl) (by kernel_rfl) (fun _ _ _ _ h => h) (by rfl) HS0.out ?_
        apply Exists.intro
        refine ⟨fun w' hw' => ?_, ?_⟩
        · obtain ⟨q0, q1⟩ := hw'
          go_simp
          first | done | rfl
        try simp only [Act.put, List.setIfInBounds_toArray, List.set_cons_zero, List.set_cons_succ]
        refine UntH.take (i := 2) (some 47) rfl rfl (by kernel_rfl) (by kernel_rfl) (by kernel_rfl) (by kernel_rfl) (fun _ _ _ _ h => h) (by rfl) HS0.out ?_
        apply Exists.intro
        refine ⟨fun w' hw' => ?_, ?_⟩
        · obtain ⟨q0, q1⟩ := hw'
          go_simp
          first | done | rfl
        try simp only [Act.put, List.setIfInBounds_toArray, List.set_cons_zero, List.set_cons_succ]
        refine UntH.take (i := 3) (some 48) rfl rfl (by kernel_rfl) (by kernel_rfl) (by kernel_rfl) (by kernel_rfl) (fun _ _ _ _ h => h) (by rfl) HS0.out ?_
        apply Exists.intro
        refine ⟨fun w' hw' => ?_, ?_⟩
        · obtain ⟨q0, q1⟩ := hw'
          go_simp
          first | done | rfl
        try simp only [Act.put, List.setIfInBounds_toArray, List.set_cons_zero, List.set_cons_succ]
        refine UntH.take (i := 4) (some 49) rfl rfl (by kernel_rfl) (by kernel_rfl) (by kernel_rfl) (by kernel_rfl) (fun _ _ _ _ h => h) (by rfl) HS0.out ?_
        apply Exists.intro
        refine ⟨fun w' hw' => ?_, ?_⟩
        · obtain ⟨q0, q1⟩ := hw'
          go_simp
          first | done | rfl
        try simp only [Act.put, List.setIfInBounds_toArray, List.set_cons_zero, List.set_cons_succ]
        refine UntH.take (i := 5) (some 50) rfl rfl (by kernel_rfl) (by kernel_rfl) (by kernel_rfl) (by kernel_rfl) (fun _ _ _ _ h => h) (by rfl) HS0.out ?_
        apply Exists.intro
        refine ⟨fun w' hw' => ?_, ?_⟩
        · obtain ⟨q0, q1⟩ := hw'
          go_simp
          first | done | rfl
        try simp only [Act.put, List.setIfInBounds_toArray, List.set_cons_zero, List.set_cons_succ]
        refine UntH.take (i := 6) (some 51) rfl rfl (by kernel_rfl) (by kernel_rfl) (by kernel_rfl) (by kernel_rfl) (fun _ _ _ _ h => h) (by rfl) HS0.out ?_
        apply Exists.intro
        refine ⟨fun w' hw' => ?_, ?_⟩
        · obtain ⟨q0, q1⟩ := hw'
          go_simp
          first | done | rfl
        try simp only [Act.put, List.setIfInBounds_toArray, List.set_cons_zero, List.set_cons_succ]
        refine UntH.take (i := 7) (some 52) rfl rfl (by kernel_rfl) (by kernel_rfl) (by kernel_rfl) (by kernel_rfl) (fun _ _ _ _ h => h) (by rfl) HS0.out ?_
        apply Exists.intro
        refine ⟨fun w' hw' => ?_, ?_⟩
        · obtain ⟨q0, q1⟩ := hw'
          go_simp
          first | done | rfl
        try simp only [Act.put, List.setIfInBounds_toArray, List.set_cons_zero, List.set_cons_succ]
        refine UntH.take (i := 8) (some 53) rfl rfl (by kernel_rfl) (by kernel_rfl) (by kernel_rfl) (by kernel_rfl) (fun _ _ _ _ h => h) (by rfl) HS0.out ?_
        apply Exists.intro
        refine ⟨fun w' hw' => ?_, ?_⟩
        · obtain ⟨q0, q1⟩ := hw'
          go_simp
          first | done | rfl
        try simp only [Act.put, List.setIfInBounds_toArray, List.set_cons_zero, List.set_cons_succ]
        have y4 : Below wd.heap.size wd (wd.alloc (.cells #[.int .i64 v] 3)) := al (Below.refl _ _) _
        have S4 := hide (S3.out.below y4)
        have HNW := hide (one_new wd (.int .i64 v) 3)
        have HS4 : Hid ((wd.alloc (.cells #[.int .i64 v] 3)).cell? ⟨x, 0, none⟩ = some (.slice sa k scp) ∧ (wd.alloc (.cells #[.int .i64 v] 3)).cell? ⟨b1, o1 + k, none⟩ = some (.int .i64 v)) := ⟨by rw [cell_of_row _ x 0 _ _ _ S4.out.blk]; rfl, HB1.out _ S4.out.bel⟩
        refine UntH.step (i := 9) (by kernel_rfl) rfl (fun K hK => ?_)
        go_simp
        refine hK _ _ HS4.out ?_
        clear hK K y4 S3
        generalize wd.alloc (.cells #[.int .i64 v] 3) = w4 at *
        refine UntH.step (i := 10) (by kernel_rfl) rfl (fun K hK => ?_)
        refine step_append_lies _ (by rfl) (.tmp 49) (.tmp 54) 22 (by rfl) w.heap.size 3 i3 (.int .i64 0) 1 8 Try.underlying22 hi3 hz30 hz31 hz32 rfl (by decide) _ k (zC (A.take k)) (by rfl) S4.out.s ⟨wd.heap.size, 0, none⟩ 1 1 [.int .i64 v] (by rfl) (by rfl) HNW.out (by simp [Value.oneCell']) (by decide) (by unfold maxLen; omega) (by omega) S4.out.bel.size _ rfl ?_
        intro g5 cap5 w5 h1 h2 h3 h4
        obtain ⟨t1, t2, t3, t4, t5⟩ := S4.out.addS (kept_of_grown h2) h1 (fun j hj => by
          have e : g5 = j := Option.some.inj hj
          rw [← e]
          exact h3.imp id (fun e => by omega))
        rw [← zC_snoc, ← HTS.out] at t2
        have S5 : Hid (∀ lv' w', w'.heap[x]? = some (.cells #[.slice (some ⟨g5, 0, none⟩) (k + 1) cap5, .int .i64 M, .slice none 0 0, lv'] 78 (0, 0)) → w'.ownsRow w.heap.size 3 1 (.slice (some ⟨g5, 0, none⟩) (k + 1) cap5) (k + 1) (zC (A.take (k + 1))) → w'.ownsRow w.heap.size 22 1 lv' (k + 1) (List.replicate (k + 1) (.slice none 0 0)) → Below w.heap.size w w' → NwS w x M A (k + 1) (.slice (some ⟨g5, 0, none⟩) (k + 1) cap5) lv' w') := fun lv' w' a b c d => ⟨a, S4.out.ge, b, c, d⟩
        have T1 := hide t1
        have T2 := hide t2
        have T3 := hide t3
        have T4 := hide t4
        have HS5 : Hid (w5.cell? ⟨x, 0, none⟩ = some (.slice sa k scp) ∧ w5.cell? ⟨b1, o1 + k, none⟩ = some (.int .i64 v)) := ⟨by rw [cell_of_row _ x 0 _ _ _ t5]; rfl, HB1.out _ (S4.out.bel.trans ((kept_of_grown h2).below S4.out.bel.size (fun j hj => (World.ownsRow.lt S4.out.s j hj).1)))⟩
        have f5 := frozen_of_row w5 x 0 _ _ t5
        refine hK _ _ HS5.out ?_
        clear hK K h1 h2 h3 h4 t1 t2 t3 t4 t5 HS4 HS0
        refine UntH.take (i := 11) (some 56) rfl rfl (by kernel_rfl) (by kernel_rfl) (by kernel_rfl) (by kernel_rfl) (fun _ _ _ _ h => h) (by rfl) HS5.out ?_
        apply Exists.intro
        refine ⟨fun w' hw' => ?_, ?_⟩
        · obtain ⟨q0, q1⟩ := hw'
          go_simp
          first | done | rfl
        refine UntH.take (i := 12) (some 57) rfl rfl (by kernel_rfl) (by kernel_rfl) (by kernel_rfl) (by kernel_rfl) (fun _ _ _ _ h => h) (by rfl) HS5.out ?_
        apply Exists.intro
        refine ⟨fun w' hw' => ?_, ?_⟩
        · obtain ⟨q0, q1⟩ := hw'
          go_simp
          first | done | rfl
        have q12 := HS5.out.1
        refine UntH.last (by kernel_rfl) rfl (by kernel_rfl) (by kernel_rfl) (fun K hK => ?_)
        go_simp
        refine hK _ _ ?_
        clear hK K q12 f5 HS5 HNW S4
        generalize w5.setCell ⟨x, 0, none⟩ (.slice (some ⟨g5, 0, none⟩) (k + 1) cap5) = w6 at *
        have c3 : w6.cell? ⟨x, 3, none⟩ = some (.slice la k lcp) := by rw [cell_of_row _ x 3 _ _ _ T1.out]; rfl
        have y7 : Below w6.heap.size w6 (w6.alloc (.cells #[.slice none 0 0] 22)) := al (Below.refl _ _) _
        have O7 := hide (own_below T3.out y7)
        have B7 := hide ((y7.block x (lt_of_block T1.out)).trans T1.out)
        have U7 := hide (own_below T2.out y7)
        have D7 := hide (bt T4.out y7 (Nat.le_refl _))
        go_wp2_with (at_builtin; refine wpList_append_view rfl (.tmp 62) (.tmp 63) 33 rfl w.heap.size 22 i22 (.slice none 0 0) 1 24 Try.underlying33 hi22 hy0 hy1 hy2 rfl (by decide) _ k (List.replicate k (.slice none 0 0)) rfl O7.out ⟨w6.heap.size, 0, none⟩ 1 1 [.slice none 0 0] rfl rfl (one_new w6 _ _) (by simp [Value.oneCell']) (by decide) (by unfold maxLen; omega) (by omega) D7.out.size ?_; intro v8 w8 h1 h2; obtain ⟨a8, c8, hv8, _⟩ := own_shape h1; subst hv8; have b8 := ((appK h2).block x (lt_of_block B7.out) (fun hF => by
          obtain ⟨cs, h5⟩ := own_ty O7.out _ hF
          exact blocks_ne B7.out h5 (by decide) rfl)).trans B7.out; have d8 : w8.cell? ⟨x, 3, none⟩ = some (.slice la k lcp) := (by rw [cell_of_row _ x 3 _ _ _ b8]; rfl); have f8 := frozen_of_row w8 x 3 _ _ b8; have B8 := hide b8; have O8 := hide h1; have A8 := hide h2; clear h1 h2 b8)
        have hk9 : Hid (NwS w x M A (k + 1) (.slice (some ⟨g5, 0, none⟩) (k + 1) cap5) (.slice a8 (k + 1) c8) (w8.setCell ⟨x, 3, none⟩ (.slice a8 (k + 1) c8))) := by
          have k3 : Kept (fun k => k = x) w8 (w8.setCell ⟨x, 3, none⟩ (.slice a8 (k + 1) c8)) := Kept.setCell (F := fun k => k = x) (p := ⟨x, 3, none⟩) (Kept.refl _ _) rfl _
          have hne : ∀ {b : Nat} {cs : Array Value} {t : TypeId} {f : Nat × Nat}, w8.heap[b]? = some (.cells cs t f) → t ≠ 78 → b ≠ x := fun hb ht => blocks_ne hb B8.out ht
          refine S5.out _ _ ?_ (own_kept (own_kept U7.out (appK A8.out) (fun j h1 h2 => own_ne U7.out O7.out (by decide) j h1 h2)) k3 (fun j hj => ?_)) (own_kept (by rw [List.replicate_succ']; exact O8.out) k3 (fun j hj => ?_)) ?_
          · have := block_setCell B8.out 3 (.slice a8 (k + 1) c8)
            simpa using this
          · have o8 := own_kept U7.out (appK A8.out) (fun j h1 h2 => own_ne U7.out O7.out (by decide) j h1 h2)
            obtain ⟨cs, h5⟩ := own_ty o8 j hj
            exact hne h5 (by decide)
          · obtain ⟨cs, h5⟩ := own_ty O8.out j hj
            exact hne h5 (by decide)
          · exact ((app_below D7.out O7.out A8.out (Nat.le_refl _))).trans (k3.below (Nat.le_trans D7.out.size (appK A8.out).size) (fun j hj => by rw [hj]; exact (HXL.out x).2 (Nat.le_refl _)))
        refine ⟨⟨k + 1, by omega, by go_num, _, _, hk9, HE2⟩, by simp [RowKit.intOf]; omega⟩
      · have HD : Hid (¬ (SzOk A ∧ 0 ≤ M ∧ M ≤ 8192)) := fun h => he (h.1.each _ (getD_mem hlt))
        clear HE
        generalize A.getD k 0 = v at *
        by_cases e1 : v < 1
        · clear he
          go_wp2
          go_ret2
          exact ⟨.inr ⟨HD.out, rfl⟩, S2.out.bel⟩
        · have e2 : 256 < v := by omega
          clear he
          go_wp2
          go_ret2
          exact ⟨.inr ⟨HD.out, rfl⟩, S2.out.bel⟩
    · have hlt' : ¬ (k : Int) < A.length := by omega
      obtain rfl : k = A.length := by omega
      have HSZ : Hid (SzOk A) := ⟨by omega, by omega, all_of_getD (fun i hi => HE.out i hi)⟩
      obtain ⟨sa, scp, hsv, hsp⟩ := own_shape S2.out.s
      subst hsv
      obtain ⟨la, lcp, hlv, hlp⟩ := own_shape S2.out.l
      subst hlv
      have HM0 : Hid (0 ≤ M ∧ M ≤ 8192) := ⟨by omega, by omega⟩
      go_wp2
      go_ret2
      have h1 := S2.out.s
      rw [List.take_length] at h1
      obtain ⟨g, c, e, hg, hzb⟩ := own_blk h1 (by omega)
      injection e with e _ e2
      subst e e2
      refine ⟨.inl ⟨HSZ.out, HM0.out.1, HM0.out.2, x, fun k => k = x ∨ k = g ∨ (Value.slice la A.length lcp).ownBlock = some k, rfl, ⟨[], g, scp, .slice none 0 0, .slice la A.length lcp, List.replicate A.length (.slice none 0 0), ⟨S2.out.blk, hzb, .inl (World.ownsRow_nil _ _ _ _), fun y hy => by simp at hy, own_mono S2.out.l (Nat.zero_le _), fun i hi => ?_, fun i j hi hj _ k hk => ?_, fun i hi k hk => ?_, .inl rfl, .inr (.inl rfl), fun k hk => by simp [Value.ownBlock] at hk, fun k hk => .inr (.inr hk), fun i hi k hk => ?_, fun y hy => by simp at hy, fun k hk => ?_, Ok.nil HSZ.out HM0.out.1 HM0.out.2⟩, rfl⟩, fun k hk => ?_⟩, S2.out.bel⟩
      · simp only [List.getD_eq_getElem?_getD, List.getElem?_replicate, hi, if_true]
        exact .inl (World.ownsRow_nil _ _ _ _)
      · simp [List.getD_eq_getElem?_getD, hi, Value.ownBlock] at hk
      · simp [List.getD_eq_getElem?_getD, hi, Value.ownBlock] at hk
      · simp [List.getD_eq_getElem?_getD, hi, Value.ownBlock] at hk
      · rcases hk with rfl | rfl | hk
        · exact lt_of_block S2.out.blk
        · exact hzb.lt
        · exact (World.ownsRow.lt S2.out.l k hk).2
      · rcases hk with rfl | rfl | hk
        · exact S2.out.ge
        · exact hg
        · exact (World.ownsRow.lt S2.out.l k hk).1
end Go.Proofs.Ytaafeflbanoncaa
/-
  Both arenas' calls, by what they say of the list of nodes. Condition: lists no longer than a process can hold.
-/
namespace Go.Proofs.Ytaafeflbanoncaa
open Go.RowKit Go.Lib Go.Maps

section
variable {w w' : World} {a x : Nat} {S : List Int} {M : Int} {N : List Nd} {m : Nat} {P Q : Nat → Prop}
theorem RA.make (h : RA w x S M N Q) (lv : Int) (ao : Option Addr) (cap : Nat) (A : List Int) (hl : A.length ≤ 140737488351232) (hz : ZAt w ao A) :
    Calls Try.prog 22 #[.pointer (some ⟨x, 0, none⟩), .int .i64 lv, .slice ao A.length cap] w fun e w' => MkL S M N lv A w e w' (fun N' P' V => RA V x S M N' P') Q := by
  obtain ⟨R, sb, sc, nv, lvv, LV, h1, rfl⟩ := h
  exact makeD_any lv ao cap A hl hz h1
theorem RA.node (h : RA w x S M N Q) (f : Int) : Calls Try.prog 45 #[.pointer (some ⟨x, 0, none⟩), .int .i64 f] w fun e w' => NdL N f w e w' := by
  obtain ⟨R, sb, sc, nv, lvv, LV, h1, rfl⟩ := h
  exact nodeD_any f h1
theorem RA.level (h : RA w x S M N Q) (f : Int) : Calls Try.prog 53 #[.pointer (some ⟨x, 0, none⟩), .int .i64 f] w fun e w' => e = .returned (.int .i64 (lvl S N f)) ∧ w' = w := by
  obtain ⟨R, sb, sc, nv, lvv, LV, h1, rfl⟩ := h
  exact levelD_any f h1
theorem RA.has (h : RA w x S M N Q) (f : Int) : Calls Try.prog 52 #[.pointer (some ⟨x, 0, none⟩), .int .i64 f] w fun e w' => e = .returned (.bool (hasN N.length f)) ∧ w' = w := by
  obtain ⟨R, sb, sc, nv, lvv, LV, h1, rfl⟩ := h
  rw [List.length_map]
  exact hasD_any f h1
theorem RA.len (h : RA w x S M N Q) : Calls Try.prog 10 #[.pointer (some ⟨x, 0, none⟩)] w fun e w' => e = .returned (.int .i64 (N.length : Int)) ∧ w' = w := by
  obtain ⟨R, sb, sc, nv, lvv, LV, h1, rfl⟩ := h
  rw [List.length_map]
  exact lenD_any h1
theorem RA.back (h : RA w x S M N Q) (n : Int) : Calls Try.prog 19 #[.pointer (some ⟨x, 0, none⟩), .int .i64 n] w fun e w' => BkL N n w e w' (fun N' V => RA V x S M N' Q) Q := by
  obtain ⟨R, sb, sc, nv, lvv, LV, h1, rfl⟩ := h
  exact backD_any n h1
/-- The document's sizes and most, read from its own fields. -/
theorem RA.fields (h : RA w x S M N Q) : ∃ sb sc, w.cell? ⟨x, 0, none⟩ = some (.slice (some ⟨sb, 0, none⟩) S.length sc) ∧ w.cell? ⟨x, 1, none⟩ = some (.int .i64 M) ∧ ZBk w sb S ∧ x < w.heap.size := by
  obtain ⟨R, sb, sc, nv, lvv, LV, h1, rfl⟩ := h
  exact ⟨sb, sc, h1.cells.1, h1.cells.2.1, h1.sz, lt_of_block h1.blk⟩
end
end Go.Proofs.Ytaafeflbanoncaa
