/-
  The world beside both arenas: lists that came out. Of the program its types alone: no condition.
-/
import Derived.Test.YtaafeflbanoncaaP44
import Derived.Test.YtaafeflbanoncaaP37
namespace Go.Proofs.Ytaafeflbanoncaa
open Go.RowKit Go.Lib Go.Maps

/-- The statements' world: its arenas, the lists that came out. -/
structure Wd (w : World) (base wb a x : Nat) (lv : Value) (D : List LD) (X : Nat → List Value) : Prop where
  blk : WBk w wb a x lv
  bas : base ≤ wb
  ls : LsAt 22 3 1 w base lv D X
  few : ∀ d ∈ D, d.n ≤ 8194
section
variable {w w' : World} {base wb : Nat} {lv : Value} {D : List LD} {X : Nat → List Value} {a x : Nat} {F : Nat → Prop}
theorem LsAt.keptF {l : Value} (h : LsAt 22 3 1 w base l D X) (hk : Kept F w w') (h1 : ∀ k, l.ownBlock = some k → ¬ F k) (h2 : ∀ k, FutL D 0 k → ¬ F k) : LsAt 22 3 1 w' base l D X :=
  ⟨own_kept h.row hk h1, fun i hi => own_kept (h.each i hi) hk (fun k hb => h2 k ⟨i, hi, Nat.zero_le _, hb⟩), h.apart⟩
theorem Wd.kept (h : Wd w base wb a x lv D X) (hk : Kept F w w') (h0 : ¬ F wb) (h1 : ∀ k, lv.ownBlock = some k → ¬ F k) (h2 : ∀ k, FutL D 0 k → ¬ F k) : Wd w' base wb a x lv D X :=
  ⟨(hk.block wb (lt_of_block h.blk) h0).trans h.blk, h.bas, h.ls.keptF hk h1 h2, h.few⟩
theorem Wd.below (h : Wd w base wb a x lv D X) (y : Below w.heap.size w w') : Wd w' base wb a x lv D X := h.kept (F := fun _ => False) (Kept.of_below y) (fun h => h) (fun _ _ h => h) (fun _ _ h => h)
theorem Wd.lt (h : Wd w base wb a x lv D X) : wb < w.heap.size ∧ (∀ k, lv.ownBlock = some k → base ≤ k ∧ k < w.heap.size) ∧ (∀ k, FutL D 0 k → base ≤ k ∧ k < w.heap.size) :=
  ⟨lt_of_block h.blk, fun k hk => World.ownsRow.lt h.ls.row k hk, fun k ⟨i, hi, _, hk⟩ => World.ownsRow.lt (h.ls.each i hi) k hk⟩
theorem futL_app {D : List LD} {d : LD} {k : Nat} (h : FutL (D ++ [d]) 0 k) : FutL D 0 k ∨ d.v.ownBlock = some k := by
  obtain ⟨i, hi, _, hk⟩ := h
  by_cases hi2 : i < D.length
  · rw [List.getElem_append_left hi2] at hk
    exact .inl ⟨i, hi2, Nat.zero_le _, hk⟩
  · have : i = D.length := by rw [List.length_append, List.length_singleton] at hi; omega
    subst this
    rw [List.getElem_append_right (Nat.le_refl _)] at hk
    simp only [Nat.sub_self, List.getElem_cons_zero] at hk
    exact .inr hk
/-- A list more. -/
theorem Wd.push (h : Wd w base wb a x lv D X) {lv' : Value} {d : LD} {xs : List Value} {n0 : Nat} (hd : w.ownsRow base 3 1 d.v d.n xs) (hdn : d.n ≤ 8194) (hnew : ∀ k, d.v.ownBlock = some k → n0 ≤ k) (hold : ∀ k, FutL D 0 k → k < n0) (k1 : Kept (fun k => lv.ownBlock = some k) w w') (o1 : w'.ownsRow base 22 1 lv' (D.length + 1) (D.map LD.v ++ [d.v])) (hn : ∀ k, lv'.ownBlock = some k → lv.ownBlock = some k ∨ w.heap.size ≤ k) :
    ∃ X', Wd (w'.setCell ⟨wb, 2, none⟩ lv') base wb a x lv' (D ++ [d]) X' ∧ WBk w' wb a x lv := by
  have hlw : ¬ lv.ownBlock = some wb := fun hF => by
    obtain ⟨cs, h5⟩ := own_ty h.ls.row _ hF
    exact blocks_ne h.blk h5 (by decide) rfl
  have hb1 := (k1.block wb (lt_of_block h.blk) hlw).trans h.blk
  have k3 : Kept (fun k => k = wb) w' (w'.setCell ⟨wb, 2, none⟩ lv') := Kept.setCell (F := fun k => k = wb) (p := ⟨wb, 2, none⟩) (Kept.refl _ _) rfl _
  have hlw' : ¬ lv'.ownBlock = some wb := fun hF => by
    rcases hn wb hF with h5 | h5
    · exact hlw h5
    · have := lt_of_block h.blk; omega
  have hl3 : ∀ {v : Value} {n : Nat} {ys : List Value}, w.ownsRow base 3 1 v n ys → (w'.setCell ⟨wb, 2, none⟩ lv').ownsRow base 3 1 v n ys := fun ho => by
    refine own_kept (own_kept ho k1 (fun k h1 h2 => own_ne ho h.ls.row (by decide) k h1 h2)) k3 (fun k h1 e => ?_)
    subst e
    obtain ⟨cs, h5⟩ := own_ty ho _ h1
    exact blocks_ne h.blk h5 (by decide) rfl
  refine ⟨fun j => if j = D.length then xs else X j, ⟨?_, h.bas, ⟨?_, fun i hi => ?_, ?_⟩, fun e he => ?_⟩, hb1⟩
  · unfold WBk
    rw [block_setCell hb1 2]
    rfl
  · rw [List.map_append, List.length_append]
    exact own_kept o1 k3 (fun k h1 e => hlw' (by rw [← e]; exact h1))
  · by_cases hi2 : i < D.length
    · rw [List.getElem_append_left hi2]
      simp only [show ¬ i = D.length by omega, if_false]
      exact hl3 (h.ls.each i hi2)
    · have hie : i = D.length := by rw [List.length_append, List.length_singleton] at hi; omega
      subst hie
      rw [List.getElem_append_right (Nat.le_refl _)]
      simp only [Nat.sub_self, List.getElem_cons_zero, if_true]
      exact hl3 hd
  · unfold ApartL
    rw [List.pairwise_append]
    refine ⟨h.ls.apart, List.pairwise_singleton _ _, fun y hy z hz k hk1 hk2 => ?_⟩
    obtain rfl := List.mem_singleton.1 hz
    obtain ⟨i, hi, rfl⟩ := List.getElem_of_mem hy
    have := hold k ⟨i, hi, Nat.zero_le _, hk1⟩
    have := hnew k hk2
    omega
  · rcases List.mem_append.1 he with he | he
    · exact h.few e he
    · rw [List.mem_singleton.1 he]; exact hdn
end
end Go.Proofs.Ytaafeflbanoncaa
/-
  The statement's look at the nodes of both arenas. No condition.
-/
namespace Go.Proofs.Ytaafeflbanoncaa
open Go.RowKit Go.Lib Go.Maps

theorem NdL.of {N : List Nd} {j : Nat} {w W : World} {e : Ending} (hj : j < N.length) (h : NdL N ((j : Int) + 2) w e W) : ∃ (g c : Nat), e = .returned (.tuple #[.agg #[.int .i64 (N.getD j (0, [])).1, .slice (some ⟨g, 0, none⟩) (N.getD j (0, [])).2.length c], .int .i64 0]) ∧ ZBk W g (N.getD j (0, [])).2 ∧ Below w.heap.size w W := by
  obtain ⟨h1, h2⟩ := h
  rcases h1 with ⟨i, lv, ks, g, c, e1, e2, e3, _, e5, _⟩ | ⟨h1, _⟩
  · have : i = j := by omega
    subst this
    have e : N.getD i (0, []) = (lv, ks) := by rw [List.getD_eq_getElem?_getD, e1]; rfl
    rw [e]
    exact ⟨g, c, e3, e5, h2⟩
  · exact absurd ⟨by omega, by omega⟩ h1
theorem kids_short {S : List Int} {M : Int} {N : List Nd} {j : Nat} (h : Ok S M N) (hlt : j < N.length) : (N.getD j (0, [])).2.length ≤ 256 := by
  have e0 : N.getD j (0, []) = N[j] := by rw [List.getD_eq_getElem?_getD, List.getElem?_eq_getElem hlt]; rfl
  have h2 := (h.each j hlt).1
  rw [e0]
  have h3 := h2.ge
  have h4 := h2.lt
  have h5 := h2.len
  have h6 := h.sz.each _ (getD_mem (L := S) (i := (N[j]).1.toNat) (by omega))
  omega
section
variable {w : World} {a x wb : Nat} {S : List Int} {M : Int} {N : List Nd} {P Q : Nat → Prop} {lv : Value}
set_option maxRecDepth 100000 in
set_option maxHeartbeats 4000000 in
theorem nodes_ok {fr : Nat} (h : SD w a x S M N N P Q) (hb : WBk w wb a x lv) (hfr : fr ≤ N.length) : Calls Try.prog 13 #[.pointer (some ⟨wb, 0, none⟩), .int .i64 (fr : Int)] w fun e w' => e = .returned (.bool true) ∧ Below w.heap.size w w' := by
  have hfew : N.length ≤ 8192 := by have := h.ca.ok.few; have := h.ca.ok.m1; omega
  have HH := hide h
  have HB := hide hb
  have HOK := hide h.ca.ok
  have CEL : Hid (∀ W, Below w.heap.size w W → W.cell? ⟨wb, 0, none⟩ = some (.pointer (some ⟨a, 0, none⟩)) ∧ W.cell? ⟨wb, 1, none⟩ = some (.pointer (some ⟨x, 0, none⟩))) := fun W y => by
    have b := (show WBk W wb a x lv from (y.block _ (lt_of_block hb)).trans hb).cells
    exact ⟨b.1, b.2.1⟩
  have X1 : Hid (Below w.heap.size w w.drew) := (Below.refl _ _).drew
  clear h hb
  go_enter Try.func13, Try.ntmps13
  go_upto_region 1 with fail
  go_cut [21] (fun v wx => v = .bool false ∧ Hid (wx = w.drew))
  case first =>
    refine wp_unt (S := fun V => V = w.drew) 10 (by kernel_rfl) ?_
    generalize w.drew = w4 at *
    obtain ⟨q0, q1⟩ := CEL.out _ X1.out
    have L1 := hide (HH.out.below X1.out).ca.len
    have L2 := hide (HH.out.below X1.out).ra.len
    refine UntH.take (i := 0) (some 11) rfl rfl (by kernel_rfl) (by kernel_rfl) (by kernel_rfl) (by kernel_rfl) (fun _ _ _ _ h => h) (by rfl) rfl ?_
    apply Exists.intro
    refine ⟨fun w' hw' => ?_, ?_⟩
    · subst hw'
      go_simp
      first | done | rfl
    try simp only [Act.put, List.setIfInBounds_toArray, List.set_cons_zero, List.set_cons_succ]
    refine UntH.take (i := 1) (some 12) rfl rfl (by kernel_rfl) (by kernel_rfl) (by kernel_rfl) (by kernel_rfl) (fun _ _ _ _ h => h) (by rfl) rfl ?_
    apply Exists.intro
    refine ⟨fun w' hw' => ?_, ?_⟩
    · subst hw'
      go_simp
      first | done | rfl
    try simp only [Act.put, List.setIfInBounds_toArray, List.set_cons_zero, List.set_cons_succ]
    refine UntH.take (i := 2) (some 13) rfl rfl (by kernel_rfl) (by kernel_rfl) (by kernel_rfl) (by kernel_rfl) (fun _ _ _ _ h => h) (by rfl) rfl ?_
    apply Exists.intro
    refine ⟨fun w' hw' => ?_, ?_⟩
    · subst hw'
      go_simp
      first | done | rfl
    try simp only [Act.put, List.setIfInBounds_toArray, List.set_cons_zero, List.set_cons_succ]
    refine UntH.take (i := 3) (some 14) rfl rfl (by kernel_rfl) (by kernel_rfl) (by kernel_rfl) (by kernel_rfl) (fun _ _ _ _ h => h) (by rfl) rfl ?_
    apply Exists.intro
    refine ⟨fun w' hw' => ?_, ?_⟩
    · subst hw'
      go_simp
      first | done | rfl
    try simp only [Act.put, List.setIfInBounds_toArray, List.set_cons_zero, List.set_cons_succ]
    refine UntH.take (i := 5) (some 16) rfl rfl (by kernel_rfl) (by kernel_rfl) (by kernel_rfl) (by kernel_rfl) (fun _ _ _ _ h => h) (by rfl) rfl ?_
    apply Exists.intro
    refine ⟨fun w' hw' => ?_, ?_⟩
    · subst hw'
      go_simp
      first | done | rfl
    try simp only [Act.put, List.setIfInBounds_toArray, List.set_cons_zero, List.set_cons_succ]
    refine UntH.take (i := 6) (some 17) rfl rfl (by kernel_rfl) (by kernel_rfl) (by kernel_rfl) (by kernel_rfl) (fun _ _ _ _ h => h) (by rfl) rfl ?_
    apply Exists.intro
    refine ⟨fun w' hw' => ?_, ?_⟩
    · subst hw'
      go_simp
      first | done | rfl
    try simp only [Act.put, List.setIfInBounds_toArray, List.set_cons_zero, List.set_cons_succ]
    refine UntH.take (i := 7) (some 18) rfl rfl (by kernel_rfl) (by kernel_rfl) (by kernel_rfl) (by kernel_rfl) (fun _ _ _ _ h => h) (by rfl) rfl ?_
    apply Exists.intro
    refine ⟨fun w' hw' => ?_, ?_⟩
    · subst hw'
      go_simp
      first | done | rfl
    try simp only [Act.put, List.setIfInBounds_toArray, List.set_cons_zero, List.set_cons_succ]
    refine UntH.take (i := 8) (some 19) rfl rfl (by kernel_rfl) (by kernel_rfl) (by kernel_rfl) (by kernel_rfl) (fun _ _ _ _ h => h) (by rfl) rfl ?_
    apply Exists.intro
    refine ⟨fun w' hw' => ?_, ?_⟩
    · subst hw'
      go_simp
      first | done | rfl
    try simp only [Act.put, List.setIfInBounds_toArray, List.set_cons_zero, List.set_cons_succ]
    clear q0 q1
    refine UntH.step (i := 4) (by kernel_rfl) rfl (fun K hK => ?_)
    go_simp
    refine L1.out.mono ?_
    rintro e w9 ⟨rfl, hw8⟩
    have hw9 := hw8.symm
    clear hw8
    subst hw9
    go_simp
    refine hK _ _ rfl ?_
    clear hK K
    refine UntH.step (i := 9) (by kernel_rfl) rfl (fun K hK => ?_)
    go_simp
    refine L2.out.mono ?_
    rintro e w9 ⟨rfl, hw8⟩
    have hw9 := hw8.symm
    clear hw8
    subst hw9
    go_simp
    refine hK _ _ rfl ?_
    clear hK K
    refine UntH.last (by kernel_rfl) rfl (by kernel_rfl) (by kernel_rfl) (fun K hK => ?_)
    go_simp
    refine hK _ _ ?_
    clear hK K
    go_wp2
    go_meet
    exact ⟨rfl, rfl⟩
  obtain ⟨rfl, hwc⟩ := hcut
  have hwc2 := hwc.out
  clear hwc
  generalize w.drew = w1 at *
  have hwc3 := hwc2.symm
  clear hwc2
  subst hwc3
  have hwf : IntKind.i64.wrap ((fr : Int) + 2) = (fr : Int) + 2 := by simp [IntKind.wrap, IntKind.bits, IntKind.signed]; omega
  go_upto_block 0 with fail
  clear hwf
  go_wp2
  go_loopw [5] (fun v wr => ∃ j : Nat, j ≤ N.length ∧ v = .int .i64 ((j : Int) + 2) ∧ Hid (Below w.heap.size w wr)) (fun v _ => N.length + 2 - (RowKit.intOf v).toNat)
  case atStart => exact ⟨fr, hfr, rfl, X1⟩
  case round =>
    obtain ⟨j, hj, rfl, Y⟩ := hrel
    obtain ⟨q0, q1⟩ := CEL.out _ Y.out
    have LEN := hide (HH.out.below Y.out).ra.len
    have hwl : IntKind.i64.wrap ((N.length : Int) + 2) = (N.length : Int) + 2 := by simp [IntKind.wrap, IntKind.bits, IntKind.signed]; omega
    by_cases hlt : j < N.length
    · have hlt' : (j : Int) + 2 < (N.length : Int) + 2 := by omega
      have ND := hide (((HH.out.below Y.out).ca.node ((j : Int) + 2)).mono (fun e W h => NdL.of hlt h))
      have NDD := hide (fun W (y : Below w.heap.size w W) => ((HH.out.below y).ra.node ((j : Int) + 2)).mono (fun e W h => NdL.of hlt h))
      have hk256 := kids_short HOK.out hlt
      generalize N.getD j (0, []) = nd at *
      obtain ⟨nl, ks⟩ := nd
      simp only at ND NDD hk256
      go_upto_region 7 with (first
        | (go_at_call 10; refine LEN.out.mono ?_; rintro e w14 ⟨rfl, hw1⟩; have hw2 := hw1.symm; clear hw1; subst hw2)
        | (go_at_call 21; refine ND.out.mono ?_; rintro e w14 ⟨g, c, rfl, zk, x14⟩; have ZK := hide zk; have X14 := hide x14; clear zk x14))
      clear ND LEN q0 q1
      have y15 : Below w14.heap.size w14 (w14.alloc (.cells #[.int .i64 nl, .slice (some ⟨g, 0, none⟩) ks.length c] 58)) := al (Below.refl _ _) _
      have b15 : (w14.alloc (.cells #[.int .i64 nl, .slice (some ⟨g, 0, none⟩) ks.length c] 58)).heap[w14.heap.size]? = some (.cells #[.int .i64 nl, .slice (some ⟨g, 0, none⟩) ks.length c] 58 (0, 0)) := heap_alloc_new w14 _
      have X15 := hide (bt Y.out (bt X14.out y15 (Nat.le_refl _)) (Nat.le_refl _))
      have ZK15 := hide (ZK.out.below y15)
      have B15 := hide b15
      clear y15 b15 ZK X14
      generalize w14.alloc (.cells #[.int .i64 nl, .slice (some ⟨g, 0, none⟩) ks.length c] 58) = w15 at *
      generalize w14.heap.size = yb at *
      obtain ⟨q0, q1⟩ := CEL.out _ X15.out
      have ND2 := hide (NDD.out _ X15.out)
      go_upto_region 8 with (go_at_call 45; refine ND2.out.mono ?_; rintro e w16 ⟨g2, c2, rfl, zk, x16⟩; have ZK2 := hide zk; have X16 := hide x16; clear zk x16)
      clear ND2 NDD q0 q1
      have y17 : Below w16.heap.size w16 (w16.alloc (.cells #[.int .i64 nl, .slice (some ⟨g2, 0, none⟩) ks.length c2] 58)) := al (Below.refl _ _) _
      have b17 : (w16.alloc (.cells #[.int .i64 nl, .slice (some ⟨g2, 0, none⟩) ks.length c2] 58)).heap[w16.heap.size]? = some (.cells #[.int .i64 nl, .slice (some ⟨g2, 0, none⟩) ks.length c2] 58 (0, 0)) := heap_alloc_new w16 _
      have X17 := hide (bt X16.out y17 (Nat.le_refl _))
      have XW17 := hide (bt X15.out X17.out (Nat.le_refl _))
      have ZA := hide (ZK15.out.below X17.out).at
      have ZB := hide (ZK2.out.below y17).at
      have B17 := hide b17
      have BA : Hid ((w16.alloc (.cells #[.int .i64 nl, .slice (some ⟨g2, 0, none⟩) ks.length c2] 58)).heap[yb]? = some (.cells #[.int .i64 nl, .slice (some ⟨g, 0, none⟩) ks.length c] 58 (0, 0))) := (X17.out.block _ (lt_of_block B15.out)).trans B15.out
      clear y17 b17 ZK15 ZK2 X16 X15 B15
      generalize w16.alloc (.cells #[.int .i64 nl, .slice (some ⟨g2, 0, none⟩) ks.length c2] 58) = w17 at *
      generalize w16.heap.size = zb at *
      have SM := same_any (some ⟨g, 0, none⟩) (some ⟨g2, 0, none⟩) c c2 ks ks w17 (by omega) ZA.out ZB.out
      rw [decide_eq_true rfl] at SM
      have HSM := hide SM
      have a0 : w17.cell? ⟨yb, 0, none⟩ = some (.int .i64 nl) := by rw [cell_of_row _ _ _ _ _ _ BA.out]; rfl
      have a1 : w17.cell? ⟨yb, 1, none⟩ = some (.slice (some ⟨g, 0, none⟩) ks.length c) := by rw [cell_of_row _ _ _ _ _ _ BA.out]; rfl
      have c0 : w17.cell? ⟨zb, 0, none⟩ = some (.int .i64 nl) := by rw [cell_of_row _ _ _ _ _ _ B17.out]; rfl
      have c1 : w17.cell? ⟨zb, 1, none⟩ = some (.slice (some ⟨g2, 0, none⟩) ks.length c2) := by rw [cell_of_row _ _ _ _ _ _ B17.out]; rfl
      clear SM
      go_upto_region 9 with (go_at_call 28; refine HSM.out.mono ?_; rintro e w18 ⟨rfl, x18⟩; have X18 := hide x18; clear x18)
      clear a0 a1 c0 c1 HSM
      have BA2 := (X18.out.block _ (lt_of_block BA.out)).trans BA.out
      have BB2 := (X18.out.block _ (lt_of_block B17.out)).trans B17.out
      have a0 : w18.cell? ⟨yb, 0, none⟩ = some (.int .i64 nl) := by rw [cell_of_row _ _ _ _ _ _ BA2]; rfl
      have c0 : w18.cell? ⟨zb, 0, none⟩ = some (.int .i64 nl) := by rw [cell_of_row _ _ _ _ _ _ BB2]; rfl
      have Y18 := hide (bt XW17.out X18.out (Nat.le_refl _))
      have hwj : IntKind.i64.wrap ((j : Int) + 2 + 1) = ((j + 1 : Nat) : Int) + 2 := by simp [IntKind.wrap, IntKind.bits, IntKind.signed]; omega
      clear BA2 BB2 BA B17 ZA ZB
      go_wp2
      go_roundw
      case rel => exact ⟨j + 1, by omega, by first | rfl | go_num, Y18⟩
      case measure => simp [RowKit.intOf]; omega
    · have hlt' : ¬ (j : Int) + 2 < (N.length : Int) + 2 := by omega
      go_wp2_with (go_at_call 10; refine LEN.out.mono ?_; rintro e w14 ⟨rfl, hw1⟩; have hw2 := hw1.symm; clear hw1; subst hw2)
      go_ret
      exact ⟨rfl, Y.out⟩
end
end Go.Proofs.Ytaafeflbanoncaa
