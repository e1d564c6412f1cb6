/-
  A step of the script: Node, Level, Has. Condition: numbers of the machine's kind.
-/
import Derived.Test.YtkklphmhbbjmcaaStm
namespace Go.Proofs.Ytkklphmhbbjmcaa
open Go.RowKit Go.Lib Go.Maps

section
variable {w : World} {base wb : Nat} {sv lv : Value} {D : List LD} {X : Nat → List Value} {a x : Nat} {S : List Int} {M : Int} {N : List Nd} {m : Nat} {P Q : Nat → Prop}
theorem own_zat {w : World} {b : Nat} {ao : Option Addr} {c : Nat} {L : List Int} (h : w.ownsRow b 3 1 (.slice ao L.length c) L.length (zC L)) : ZAt w ao L := by
  by_cases h0 : 0 < L.length
  · obtain ⟨g, c', e, _, hz⟩ := own_blk h h0
    injection e with e _ _
    subst e
    exact hz.at
  · exact .inl (List.eq_nil_of_length_eq_zero (by omega))
/-- A list more, and nothing else. -/
theorem St.pushed (h : St w base wb sv lv D X a x S M N m P Q) {w1 w' : World} (y : Below w.heap.size w w1) {lv' : Value} {d : LD} {xs : List Value} (hd : w1.ownsRow w.heap.size 3 1 d.v d.n xs) (hdn : d.n ≤ 256) (hb : base ≤ w.heap.size)
    (k1 : Kept (fun k => lv.ownBlock = some k) w1 w') (o1 : w'.ownsRow base 22 1 lv' (D.length + 1) (D.map LD.v ++ [d.v])) (hn : ∀ k, lv'.ownBlock = some k → lv.ownBlock = some k ∨ w1.heap.size ≤ k) :
    StK w base wb sv lv D a x S M m P Q N (w'.setCell ⟨wb, 1, none⟩ lv') ∧ Sd (w'.setCell ⟨wb, 1, none⟩ lv') base a x S M N m P Q ∧ Kept (fun k => k = wb ∨ lv.ownBlock = some k) w1 (w'.setCell ⟨wb, 1, none⟩ lv') ∧ w'.heap[wb]? = some (.cells #[sv, lv] 38 (0, 0)) := by
  obtain ⟨l1, l2, l3⟩ := h.wd.lt
  have hnew : ∀ k, d.v.ownBlock = some k → w.heap.size ≤ k := fun k hk => (World.ownsRow.lt hd k hk).1
  obtain ⟨X', h1, h2⟩ := (h.wd.below y).push (own_mono hd hb) hdn hnew (fun k hk => (l3 k hk).2) k1 o1 hn
  have k3 : Kept (fun k => k = wb) w' (w'.setCell ⟨wb, 1, none⟩ lv') := Kept.setCell (F := fun k => k = wb) (p := ⟨wb, 1, none⟩) (Kept.refl _ _) rfl _
  have kk : Kept (fun k => k = wb ∨ lv.ownBlock = some k) w1 (w'.setCell ⟨wb, 1, none⟩ lv') := (k1.mono (fun _ h => .inr h)).trans (k3.mono (fun _ h => .inl h))
  have hsd : Sd (w'.setCell ⟨wb, 1, none⟩ lv') base a x S M N m P Q := (h.sd.below y).kept kk (fun k hp hF => by
    obtain ⟨d1, d2, _⟩ := h.dis k (.inl hp)
    exact hF.elim d1 d2) (fun k hp hF => by
    obtain ⟨d1, d2, _⟩ := h.dis k (.inr hp)
    exact hF.elim d1 d2)
  have hlt : ∀ k, P k ∨ Q k → k < w.heap.size := fun k hk => hk.elim (fun h' => h.sd.ca.plt h') (fun h' => h.sd.ra.plt h')
  refine ⟨⟨lv', D ++ [d], X', P, Q, ⟨hsd, h1, fun k hk => ⟨(h.dis k hk).1, fun hb' => ?_, fun hf => ?_⟩⟩, fun k hk => .inl hk, fun k hk => .inl hk, fun k hk => (hn k hk).imp id (Nat.le_trans y.size), fun k hk => (futL_app hk).imp id (hnew k), by simp, (Kept.of_below y).trans (kk.mono (fun k hk => .inr (.inr hk)))⟩, hsd, kk, h2⟩
  · rcases hn k hb' with h5 | h5
    · exact (h.dis k hk).2.1 h5
    · have := hlt k hk; have := y.size; omega
  · rcases futL_app hf with h5 | h5
    · exact (h.dis k hk).2.2 h5
    · have := hlt k hk; have := hnew k h5; omega
theorem St.after {w' w'' : World} {N' : List Nd} (h : StK w base wb sv lv D a x S M m P Q N' w') (y : Below w'.heap.size w' w'') : StK w base wb sv lv D a x S M m P Q N' w'' := by
  obtain ⟨lv', D', X', P', Q', g1, g2, g3, g4, g5, g6, g7⟩ := h
  exact ⟨lv', D', X', P', Q', g1.below y, g2, g3, g4, g5, g6, g7.trans (Kept.of_below y)⟩
set_option maxRecDepth 100000 in
set_option maxHeartbeats 8000000 in
theorem stepNode (o : OpZ) (h : St w base wb sv lv D X a x S M N m P Q) (ho : OpOk w o) (hb : base ≤ w.heap.size) (hD : D.length ≤ 2932031007402) (hw : o.what = 4 ∨ o.what = 5) :
    Calls Try.prog 8 #[.pointer (some ⟨wb, 0, none⟩), .agg #[.pointer (some ⟨a, 0, none⟩), .pointer (some ⟨x, 0, none⟩)], .agg (opC o)] w fun e w' => e = .returned (.bool true) ∧ StK w base wb sv lv D a x S M m P Q N w' := by
  obtain ⟨i22, hi22, hy0, hy1, hy2⟩ := info_parts Try.info22
  obtain ⟨y2, b1, b2⟩ := boxed w (.pointer (some ⟨a, 0, none⟩)) (.pointer (some ⟨x, 0, none⟩)) (opC o)
  have hfit := ho.fit
  have hN := h.sd.ca.ok.few
  have hN1 := h.sd.ca.ok.m1
  have HK2 := hide h.sd.ca.ok.kids256
  have HH := hide h
  have Y2 := hide y2
  have B1 := hide b1
  have B2 := hide b2
  clear h ho y2 b1 b2
  obtain ⟨other, near, what, n, ka, K, kc⟩ := o
  unfold opC at *
  simp only at *
  rcases hw with rfl | rfl
  all_goals
    go_enter Try.func8, Try.ntmps8
    go_upto_region 1 with fail
    generalize (w.alloc (.cells #[.pointer (some ⟨a, 0, none⟩), .pointer (some ⟨x, 0, none⟩)] 34)).alloc _ = w2 at *
    have hw0 : w.heap.size < w2.heap.size := lt_of_block B1.out
    have hw1 : w.heap.size + 1 < w2.heap.size := lt_of_block B2.out
    obtain ⟨q0, q1⟩ := cell_two B1.out
    obtain ⟨p0, p1, p2, p3, p4⟩ := cell_five B2.out
    have H2 := hide (HH.out.below Y2.out)
    have HRD : Hid (∀ V, Below w2.heap.size w2 V → V.cell? ⟨w.heap.size, 0, none⟩ = some (.pointer (some ⟨a, 0, none⟩)) ∧ V.cell? ⟨w.heap.size, 1, none⟩ = some (.pointer (some ⟨x, 0, none⟩)) ∧ V.cell? ⟨w.heap.size + 1, 3, none⟩ = some (.int .i64 n)) := fun V y => by
      obtain ⟨a0, a1⟩ := cell_two ((y.block _ hw0).trans B1.out)
      obtain ⟨-, -, -, p3, -⟩ := cell_five ((y.block _ hw1).trans B2.out)
      exact ⟨a0, a1, p3⟩
    go_upto_if 33 with fail
    clear q0 q1 p0 p1 p2 p3 p4
    go_cut [7] (fun v wx => ∃ n' : Int, v = .int .i64 n' ∧ Hid (Below w2.heap.size w2 wx))
    case first =>
      cases near
      · go_wp2
        go_meet
        exact ⟨n, rfl, Below.refl _ _⟩
      · have HPK := hide (fun V => pick_any n (N.length + 4) hfit (by omega) (by omega) V)
        generalize pkZ n (N.length + 4) = z at *
        have eS : IntKind.i64.wrap ((N.length : Int) + 4) = ((N.length + 4 : Nat) : Int) := by simp [IntKind.wrap, IntKind.bits, IntKind.signed]; omega
        have HLN : Hid (∀ V, Below w2.heap.size w2 V → Calls Try.prog 10 #[.pointer (some ⟨x, 0, none⟩)] V fun e w' => e = .returned (.int .i64 (N.length : Int)) ∧ w' = V) := fun V y => (H2.out.sd.ra.below y).len
        have HDr : Hid (Below w2.heap.size w2 w2.drew) := (Below.refl _ _).drew
        go_upto_region 11 with fail
        refine wp_region_quiet (C := fun w' => Below w2.heap.size w2 w') (by kernel_rfl) (by kernel_rfl) HDr.out ?_
        refine QW.out (l := _ :: _) ?_
        iterate 4 (refine QW.take (by rfl) ?_; apply Exists.intro; refine ⟨fun w' hw' => ?_, ?_⟩; (· (obtain ⟨g1, g2, g3⟩ := HRD.out w' hw'; go_simp; first | done | (first | done | rfl))); try simp only [Act.put, List.setIfInBounds_toArray, List.set_cons_zero, List.set_cons_succ])
        iterate 1 (refine QW.take (by rfl) ?_; apply Exists.intro; refine ⟨fun w' hw' => ?_, ?_⟩; (· (obtain ⟨g1, g2, g3⟩ := HRD.out w' hw'; go_simp; (first | (refine (HLN.out w' hw').mono ?_; rintro e w3 ⟨rfl, x3⟩; exact ⟨rfl, by rw [x3]; exact hw'⟩) | (refine (HPK.out w').mono ?_; rintro e w3 ⟨rfl, x3⟩; exact ⟨rfl, by rw [x3]; exact hw'⟩)))); try simp only [Act.put, List.setIfInBounds_toArray, List.set_cons_zero, List.set_cons_succ])
        iterate 1 (refine QW.take (by rfl) ?_; apply Exists.intro; refine ⟨fun w' hw' => ?_, ?_⟩; (· (obtain ⟨g1, g2, g3⟩ := HRD.out w' hw'; go_simp; first | done | (first | done | rfl))); try simp only [Act.put, List.setIfInBounds_toArray, List.set_cons_zero, List.set_cons_succ])
        iterate 1 (refine QW.take (by rfl) ?_; apply Exists.intro; refine ⟨fun w' hw' => ?_, ?_⟩; (· (obtain ⟨g1, g2, g3⟩ := HRD.out w' hw'; go_simp; (first | (refine (HLN.out w' hw').mono ?_; rintro e w3 ⟨rfl, x3⟩; exact ⟨rfl, by rw [x3]; exact hw'⟩) | (refine (HPK.out w').mono ?_; rintro e w3 ⟨rfl, x3⟩; exact ⟨rfl, by rw [x3]; exact hw'⟩)))); try simp only [Act.put, List.setIfInBounds_toArray, List.set_cons_zero, List.set_cons_succ])
        iterate 1 (refine QW.take (by rfl) ?_; apply Exists.intro; refine ⟨fun w' hw' => ?_, ?_⟩; (· (obtain ⟨g1, g2, g3⟩ := HRD.out w' hw'; go_simp; first | done | (first | done | rfl))); try simp only [Act.put, List.setIfInBounds_toArray, List.set_cons_zero, List.set_cons_succ])
        refine QW.nil ?_
        intro w3 x3
        have X3 := hide x3
        clear x3
        go_wp2
        go_meet
        exact ⟨_, rfl, X3⟩
    case rest =>
      obtain ⟨n', rfl, X3⟩ := hcut
      have H3 := hide (H2.out.below X3.out)
      have hbc : base ≤ wc.heap.size := Nat.le_trans hb (bt Y2.out X3.out (Nat.le_refl _)).size
      obtain ⟨g1, g2, g3⟩ := HRD.out wc X3.out
      have HC := hide (H3.out.sd.ca.node n')
      go_upto_region 13 with (go_at_call 14; refine HC.out.mono ?_; intro e w4 h4; obtain ⟨⟨ao, c, he, o4, z4⟩, l4, x4⟩ := h4.form HK2.out; subst he; have O4 := hide o4; have L4 := hide l4; have X4 := hide x4; clear h4 o4 z4 l4 x4)
      clear g1 g2 g3 HC
      generalize hks : (ndX N n').2 = ks at *
      have HKS := hide hks
      clear hks
      have y5 : Below w4.heap.size w4 (w4.alloc (.cells #[.int .i64 (ndX N n').1, .slice ao ks.length c] 47)) := al (Below.refl _ _) _
      have B5 := hide (heap_alloc_new w4 (.cells #[.int .i64 (ndX N n').1, .slice ao ks.length c] 47))
      have X5 := hide (bt X4.out y5 (Nat.le_refl _))
      have O5 := hide (own_below O4.out y5)
      clear O4 X4 y5
      obtain ⟨xb, hxb⟩ : ∃ xb, xb = w4.heap.size := ⟨_, rfl⟩
      rw [← hxb] at B5 ⊢
      clear hxb
      generalize w4.alloc (.cells #[.int .i64 (ndX N n').1, .slice ao ks.length c] 47) = w5 at *
      obtain ⟨g1, g2, g3⟩ := HRD.out w5 (bt X3.out X5.out (Nat.le_refl _))
      have HDn := hide ((H3.out.sd.ra.below X5.out).node n')
      go_upto_region 14 with (go_at_call 22; refine HDn.out.mono ?_; intro e w6 h6; obtain ⟨⟨ao6, c6, he, o6, z6⟩, l6, x6⟩ := h6.form HK2.out; rw [HKS.out] at he o6; subst he; have Z6 := hide o6; have Y6 := hide x6; clear h6 o6 z6 l6 x6)
      clear g1 g2 g3 HDn
      have y7 : Below w6.heap.size w6 (w6.alloc (.cells #[.int .i64 (ndX N n').1, .slice ao6 ks.length c6] 47)) := al (Below.refl _ _) _
      have B7 := hide (heap_alloc_new w6 (.cells #[.int .i64 (ndX N n').1, .slice ao6 ks.length c6] 47))
      have Y7 := hide (bt Y6.out y7 (Nat.le_refl _))
      have Z7 := hide (own_below Z6.out y7)
      clear Z6 Y6 y7
      obtain ⟨yb, hyb⟩ : ∃ yb, yb = w6.heap.size := ⟨_, rfl⟩
      rw [← hyb] at B7 ⊢
      clear hyb
      generalize w6.alloc (.cells #[.int .i64 (ndX N n').1, .slice ao6 ks.length c6] 47) = w7 at *
      have X7 := hide (bt X5.out Y7.out (Nat.le_refl _))
      have O7 := hide (own_below O5.out Y7.out)
      have C7 := hide ((Y7.out.block xb (lt_of_block B5.out)).trans B5.out)
      clear O5 B5 Y7 X5
      -- the list goes to the others
      have yd : Below w7.heap.size w7 w7.drew := (Below.refl _ _).drew
      have Xd := hide (bt X7.out yd (Nat.le_refl _))
      have Od := hide (own_below O7.out yd)
      have Zd := hide (own_below Z7.out yd)
      have Cd := hide ((yd.block xb (lt_of_block C7.out)).trans C7.out)
      have Bd := hide ((yd.block yb (lt_of_block B7.out)).trans B7.out)
      have Hd := hide (H3.out.below Xd.out)
      obtain ⟨la, lc, hlv, -⟩ := own_shape H3.out.wd.ls.row
      subst hlv
      have HS0 : Hid (w7.drew.cell? ⟨wb, 1, none⟩ = some (.slice la D.length lc) ∧ w7.drew.cell? ⟨xb, 1, none⟩ = some (.slice ao ks.length c)) := ⟨(cell_two Hd.out.wd.blk).2, (cell_two Cd.out).2⟩
      clear yd X7 O7 Z7 C7 B7
      refine wp_unt (S := fun V => V.cell? ⟨wb, 1, none⟩ = some (.slice la D.length lc) ∧ V.cell? ⟨xb, 1, none⟩ = some (.slice ao ks.length c)) 11 (by kernel_rfl) ?_
      generalize w7.drew = wd at *
      refine UntH.take (i := 0) (some 55) rfl rfl (by kernel_rfl) (by kernel_rfl) (by kernel_rfl) (by kernel_rfl) (fun _ _ _ _ h => h) (by rfl) HS0.out ?_
      apply Exists.intro
      refine ⟨fun w' hw' => ?_, ?_⟩
      · obtain ⟨q0, q1⟩ := hw'
        go_simp
        first | done | rfl
      try simp only [Act.put, List.setIfInBounds_toArray, List.set_cons_zero, List.set_cons_succ]
      refine UntH.take (i := 1) (some 56) rfl rfl (by kernel_rfl) (by kernel_rfl) (by kernel_rfl) (by kernel_rfl) (fun _ _ _ _ h => h) (by rfl) HS0.out ?_
      apply Exists.intro
      refine ⟨fun w' hw' => ?_, ?_⟩
      · obtain ⟨q0, q1⟩ := hw'
        go_simp
        first | done | rfl
      try simp only [Act.put, List.setIfInBounds_toArray, List.set_cons_zero, List.set_cons_succ]
      refine UntH.take (i := 2) (some 57) rfl rfl (by kernel_rfl) (by kernel_rfl) (by kernel_rfl) (by kernel_rfl) (fun _ _ _ _ h => h) (by rfl) HS0.out ?_
      apply Exists.intro
      refine ⟨fun w' hw' => ?_, ?_⟩
      · obtain ⟨q0, q1⟩ := hw'
        go_simp
        first | done | rfl
      try simp only [Act.put, List.setIfInBounds_toArray, List.set_cons_zero, List.set_cons_succ]
      refine UntH.take (i := 3) (some 58) rfl rfl (by kernel_rfl) (by kernel_rfl) (by kernel_rfl) (by kernel_rfl) (fun _ _ _ _ h => h) (by rfl) HS0.out ?_
      apply Exists.intro
      refine ⟨fun w' hw' => ?_, ?_⟩
      · obtain ⟨q0, q1⟩ := hw'
        go_simp
        first | done | rfl
      try simp only [Act.put, List.setIfInBounds_toArray, List.set_cons_zero, List.set_cons_succ]
      refine UntH.take (i := 4) (some 59) rfl rfl (by kernel_rfl) (by kernel_rfl) (by kernel_rfl) (by kernel_rfl) (fun _ _ _ _ h => h) (by rfl) HS0.out ?_
      apply Exists.intro
      refine ⟨fun w' hw' => ?_, ?_⟩
      · obtain ⟨q0, q1⟩ := hw'
        go_simp
        first | done | rfl
      try simp only [Act.put, List.setIfInBounds_toArray, List.set_cons_zero, List.set_cons_succ]
      refine UntH.take (i := 5) (some 60) rfl rfl (by kernel_rfl) (by kernel_rfl) (by kernel_rfl) (by kernel_rfl) (fun _ _ _ _ h => h) (by rfl) HS0.out ?_
      apply Exists.intro
      refine ⟨fun w' hw' => ?_, ?_⟩
      · obtain ⟨q0, q1⟩ := hw'
        go_simp
        first | done | rfl
      try simp only [Act.put, List.setIfInBounds_toArray, List.set_cons_zero, List.set_cons_succ]
      refine UntH.take (i := 6) (some 61) rfl rfl (by kernel_rfl) (by kernel_rfl) (by kernel_rfl) (by kernel_rfl) (fun _ _ _ _ h => h) (by rfl) HS0.out ?_
      apply Exists.intro
      refine ⟨fun w' hw' => ?_, ?_⟩
      · obtain ⟨q0, q1⟩ := hw'
        go_simp
        first | done | rfl
      try simp only [Act.put, List.setIfInBounds_toArray, List.set_cons_zero, List.set_cons_succ]
      have y8 : Below wd.heap.size wd (wd.alloc (.cells #[.slice ao ks.length c] 22)) := al (Below.refl _ _) _
      have H8 := hide (Hd.out.below y8)
      have X8 := hide (bt Xd.out y8 (Nat.le_refl _))
      have O8 := hide (own_below Od.out y8)
      have Z8 := hide (own_below Zd.out y8)
      have C8 := hide ((y8.block xb (lt_of_block Cd.out)).trans Cd.out)
      have B8 := hide ((y8.block yb (lt_of_block Bd.out)).trans Bd.out)
      have HNW := hide (one_new wd (.slice ao ks.length c) 22)
      have HS8 : Hid ((wd.alloc (.cells #[.slice ao ks.length c] 22)).cell? ⟨wb, 1, none⟩ = some (.slice la D.length lc) ∧ (wd.alloc (.cells #[.slice ao ks.length c] 22)).cell? ⟨xb, 1, none⟩ = some (.slice ao ks.length c)) := ⟨(cell_two H8.out.wd.blk).2, (cell_two C8.out).2⟩
      have hE8 : Hid (base ≤ (wd.alloc (.cells #[.slice ao ks.length c] 22)).heap.size) := Nat.le_trans hbc X8.out.size
      refine UntH.step (i := 7) (by kernel_rfl) rfl (fun K hK => ?_)
      go_simp
      refine hK _ _ HS8.out ?_
      clear hK K y8 Hd Xd Od Zd Cd Bd HS0
      generalize wd.alloc (.cells #[.slice ao ks.length c] 22) = w8 at *
      refine UntH.step (i := 8) (by kernel_rfl) rfl (fun K hK => ?_)
      refine step_append_lies _ (by rfl) (.tmp 59) (.tmp 62) 36 (by rfl) base 22 i22 (.slice none 0 0) 1 24 Try.underlying36 hi22 hy0 hy1 hy2 rfl (by decide) _ D.length (D.map LD.v) (by rfl) H8.out.wd.ls.row ⟨wd.heap.size, 0, none⟩ 1 1 [.slice ao ks.length c] (by rfl) (by rfl) HNW.out (by simp [Value.oneCell']) (by decide) (by unfold maxLen; omega) (by omega) hE8.out _ rfl ?_
      intro g9 cap9 w9 h1 h2 h3 h4
      obtain ⟨t1, t2, t3, t4⟩ := H3.out.pushed (d := ⟨.slice ao ks.length c, ks.length⟩) (lv' := .slice (some ⟨g9, 0, none⟩) (D.length + 1) cap9) X8.out O8.out L4.out hbc (kept_of_grown h2) h1 (fun k hk => by
        have e : g9 = k := Option.some.inj hk
        rw [← e]
        exact h3.imp id (fun e => by omega))
      have T1 := hide t1
      have T2 := hide t2
      have T3 := hide t3
      have hx9 : w9.heap[xb]? = some (.cells #[.int .i64 (ndX N n').1, .slice ao ks.length c] 47 (0, 0)) := ((kept_of_grown h2).block xb (lt_of_block C8.out) (fun hF => by
        obtain ⟨cs, h5⟩ := own_ty H8.out.wd.ls.row _ hF
        exact blocks_ne C8.out h5 (by decide) rfl)).trans C8.out
      have HS9 : Hid (w9.cell? ⟨wb, 1, none⟩ = some (.slice la D.length lc) ∧ w9.cell? ⟨xb, 1, none⟩ = some (.slice ao ks.length c)) := ⟨(cell_two t4).2, (cell_two hx9).2⟩
      have f9 := frozen_of_row w9 wb 1 _ _ t4
      refine hK _ _ HS9.out ?_
      clear hK K h1 h2 h3 h4 t1 t2 t3 t4 hx9 HS8 HNW hE8
      refine UntH.take (i := 9) (some 64) rfl rfl (by kernel_rfl) (by kernel_rfl) (by kernel_rfl) (by kernel_rfl) (fun _ _ _ _ h => h) (by rfl) HS9.out ?_
      apply Exists.intro
      refine ⟨fun w' hw' => ?_, ?_⟩
      · obtain ⟨q0, q1⟩ := hw'
        go_simp
        first | done | rfl
      refine UntH.take (i := 10) (some 65) rfl rfl (by kernel_rfl) (by kernel_rfl) (by kernel_rfl) (by kernel_rfl) (fun _ _ _ _ h => h) (by rfl) HS9.out ?_
      apply Exists.intro
      refine ⟨fun w' hw' => ?_, ?_⟩
      · obtain ⟨q0, q1⟩ := hw'
        go_simp
        first | done | rfl
      have q9 := HS9.out.1
      refine UntH.last (by kernel_rfl) rfl (by kernel_rfl) (by kernel_rfl) (fun K hK => ?_)
      go_simp
      refine hK _ _ ?_
      clear hK K q9 f9 HS9
      -- what the others have, behind it
      have HNE : Hid (∀ {b : Nat} {cs : Array Value} {t : TypeId} {f : Nat × Nat}, w8.heap[b]? = some (.cells cs t f) → t ≠ 38 → t ≠ 22 → ¬ (b = wb ∨ (Value.slice la D.length lc).ownBlock = some b)) := fun hb' h1 h2 hF => by
        rcases hF with hF | hF
        · exact blocks_ne hb' H8.out.wd.blk h1 hF
        · obtain ⟨cs, h5⟩ := own_ty H8.out.wd.ls.row _ hF
          exact blocks_ne hb' h5 h2 rfl
      have C9 := hide ((T3.out.block xb (lt_of_block C8.out) (HNE.out C8.out (by decide) (by decide))).trans C8.out)
      have B9 := hide ((T3.out.block yb (lt_of_block B8.out) (HNE.out B8.out (by decide) (by decide))).trans B8.out)
      have hb0 := ((bt X3.out X8.out (Nat.le_refl _)).block _ hw0).trans B1.out
      have K9 := hide ((T3.out.block w.heap.size (lt_of_block hb0) (HNE.out hb0 (by decide) (by decide))).trans hb0)
      have O9 := hide (own_kept O8.out T3.out (fun k hk => by
        obtain ⟨cs, h5⟩ := own_ty O8.out k hk
        exact HNE.out h5 (by decide) (by decide)))
      have Z9 := hide (own_kept Z8.out T3.out (fun k hk => by
        obtain ⟨cs, h5⟩ := own_ty Z8.out k hk
        exact HNE.out h5 (by decide) (by decide)))
      generalize w9.setCell ⟨wb, 1, none⟩ (.slice (some ⟨g9, 0, none⟩) (D.length + 1) cap9) = w10 at *
      clear hb0 HNE O8 Z8 C8 B8 H8 X8 T3
      have HSM := hide (same_any ao ao6 c c6 ks ks w10 (by have := L4.out; omega) (own_zat O9.out) (own_zat Z9.out))
      rw [decide_eq_true rfl] at HSM
      obtain ⟨r0, r1⟩ := cell_two C9.out
      obtain ⟨s0, s1⟩ := cell_two B9.out
      go_upto_region 16 with (go_at_call 16; refine HSM.out.mono ?_; rintro e w11 ⟨rfl, x11⟩; have X11 := hide x11; clear x11)
      clear HSM r0 r1 s0 s1
      have hxl := lt_of_block C9.out
      have hyl := lt_of_block B9.out
      have hkl := lt_of_block K9.out
      have HR2 : Hid (∀ V, Below w11.heap.size w11 V → V.cell? ⟨xb, 0, none⟩ = some (.int .i64 (ndX N n').1) ∧ V.cell? ⟨yb, 0, none⟩ = some (.int .i64 (ndX N n').1) ∧ V.cell? ⟨w.heap.size, 0, none⟩ = some (.pointer (some ⟨a, 0, none⟩)) ∧ V.cell? ⟨w.heap.size, 1, none⟩ = some (.pointer (some ⟨x, 0, none⟩))) := fun V y => by
        have y2 := bt X11.out y (Nat.le_refl _)
        obtain ⟨a0, a1⟩ := cell_two ((y2.block _ hkl).trans K9.out)
        exact ⟨(cell_two ((y2.block _ hxl).trans C9.out)).1, (cell_two ((y2.block _ hyl).trans B9.out)).1, a0, a1⟩
      have HL1 : Hid (∀ V, Below w11.heap.size w11 V → Calls Try.prog 15 #[.pointer (some ⟨a, 0, none⟩), .int .i64 n'] V fun e w' => e = .returned (.int .i64 (lvl S N n')) ∧ w' = V) := fun V y => (T2.out.ca.below (bt X11.out y (Nat.le_refl _))).level n'
      have HL2 : Hid (∀ V, Below w11.heap.size w11 V → Calls Try.prog 23 #[.pointer (some ⟨x, 0, none⟩), .int .i64 n'] V fun e w' => e = .returned (.int .i64 (lvl S N n')) ∧ w' = V) := fun V y => (T2.out.ra.below (bt X11.out y (Nat.le_refl _))).level n'
      have HL3 : Hid (∀ V, Below w11.heap.size w11 V → Calls Try.prog 24 #[.pointer (some ⟨a, 0, none⟩), .int .i64 n'] V fun e w' => e = .returned (.bool (hasN N.length n')) ∧ w' = V) := fun V y => (T2.out.ca.below (bt X11.out y (Nat.le_refl _))).has n'
      have HL4 : Hid (∀ V, Below w11.heap.size w11 V → Calls Try.prog 25 #[.pointer (some ⟨x, 0, none⟩), .int .i64 n'] V fun e w' => e = .returned (.bool (hasN N.length n')) ∧ w' = V) := fun V y => (T2.out.ra.below (bt X11.out y (Nat.le_refl _))).has n'
      generalize lvl S N n' = l1 at *
      generalize hasN N.length n' = l2 at *
      generalize ndE N n' = l3 at *
      generalize (ndX N n').1 = l4 at *
      have eq1 : (l1 == l1) = true := by simp
      have eq2 : (l3 == l3) = true := by simp
      have eq4 : (l4 == l4) = true := by simp
      have HDr : Hid (Below w11.heap.size w11 w11.drew) := (Below.refl _ _).drew
      refine wp_region_quiet (C := fun w' => Below w11.heap.size w11 w') (by kernel_rfl) (by kernel_rfl) HDr.out ?_
      refine QW.out (l := _ :: _) ?_
      iterate 17 (refine QW.take (by rfl) ?_; apply Exists.intro; refine ⟨fun w' hw' => ?_, ?_⟩; (· (obtain ⟨g1, g2, g3, g4⟩ := HR2.out w' hw'; go_simp; first | done | (first | done | rfl))); try simp only [Act.put, List.setIfInBounds_toArray, List.set_cons_zero, List.set_cons_succ])
      iterate 1 (refine QW.take (by rfl) ?_; apply Exists.intro; refine ⟨fun w' hw' => ?_, ?_⟩; (· (obtain ⟨g1, g2, g3, g4⟩ := HR2.out w' hw'; go_simp; (first | (refine (HL1.out w' hw').mono ?_; rintro e w3 ⟨rfl, x3⟩; exact ⟨rfl, by rw [x3]; exact hw'⟩) | (refine (HL2.out w' hw').mono ?_; rintro e w3 ⟨rfl, x3⟩; exact ⟨rfl, by rw [x3]; exact hw'⟩) | (refine (HL3.out w' hw').mono ?_; rintro e w3 ⟨rfl, x3⟩; exact ⟨rfl, by rw [x3]; exact hw'⟩) | (refine (HL4.out w' hw').mono ?_; rintro e w3 ⟨rfl, x3⟩; exact ⟨rfl, by rw [x3]; exact hw'⟩)))); try simp only [Act.put, List.setIfInBounds_toArray, List.set_cons_zero, List.set_cons_succ])
      iterate 3 (refine QW.take (by rfl) ?_; apply Exists.intro; refine ⟨fun w' hw' => ?_, ?_⟩; (· (obtain ⟨g1, g2, g3, g4⟩ := HR2.out w' hw'; go_simp; first | done | (first | done | rfl))); try simp only [Act.put, List.setIfInBounds_toArray, List.set_cons_zero, List.set_cons_succ])
      iterate 1 (refine QW.take (by rfl) ?_; apply Exists.intro; refine ⟨fun w' hw' => ?_, ?_⟩; (· (obtain ⟨g1, g2, g3, g4⟩ := HR2.out w' hw'; go_simp; (first | (refine (HL1.out w' hw').mono ?_; rintro e w3 ⟨rfl, x3⟩; exact ⟨rfl, by rw [x3]; exact hw'⟩) | (refine (HL2.out w' hw').mono ?_; rintro e w3 ⟨rfl, x3⟩; exact ⟨rfl, by rw [x3]; exact hw'⟩) | (refine (HL3.out w' hw').mono ?_; rintro e w3 ⟨rfl, x3⟩; exact ⟨rfl, by rw [x3]; exact hw'⟩) | (refine (HL4.out w' hw').mono ?_; rintro e w3 ⟨rfl, x3⟩; exact ⟨rfl, by rw [x3]; exact hw'⟩)))); try simp only [Act.put, List.setIfInBounds_toArray, List.set_cons_zero, List.set_cons_succ])
      iterate 6 (refine QW.take (by rfl) ?_; apply Exists.intro; refine ⟨fun w' hw' => ?_, ?_⟩; (· (obtain ⟨g1, g2, g3, g4⟩ := HR2.out w' hw'; go_simp; first | done | (first | done | rfl))); try simp only [Act.put, List.setIfInBounds_toArray, List.set_cons_zero, List.set_cons_succ])
      iterate 1 (refine QW.take (by rfl) ?_; apply Exists.intro; refine ⟨fun w' hw' => ?_, ?_⟩; (· (obtain ⟨g1, g2, g3, g4⟩ := HR2.out w' hw'; go_simp; (first | (refine (HL1.out w' hw').mono ?_; rintro e w3 ⟨rfl, x3⟩; exact ⟨rfl, by rw [x3]; exact hw'⟩) | (refine (HL2.out w' hw').mono ?_; rintro e w3 ⟨rfl, x3⟩; exact ⟨rfl, by rw [x3]; exact hw'⟩) | (refine (HL3.out w' hw').mono ?_; rintro e w3 ⟨rfl, x3⟩; exact ⟨rfl, by rw [x3]; exact hw'⟩) | (refine (HL4.out w' hw').mono ?_; rintro e w3 ⟨rfl, x3⟩; exact ⟨rfl, by rw [x3]; exact hw'⟩)))); try simp only [Act.put, List.setIfInBounds_toArray, List.set_cons_zero, List.set_cons_succ])
      iterate 3 (refine QW.take (by rfl) ?_; apply Exists.intro; refine ⟨fun w' hw' => ?_, ?_⟩; (· (obtain ⟨g1, g2, g3, g4⟩ := HR2.out w' hw'; go_simp; first | done | (first | done | rfl))); try simp only [Act.put, List.setIfInBounds_toArray, List.set_cons_zero, List.set_cons_succ])
      iterate 1 (refine QW.take (by rfl) ?_; apply Exists.intro; refine ⟨fun w' hw' => ?_, ?_⟩; (· (obtain ⟨g1, g2, g3, g4⟩ := HR2.out w' hw'; go_simp; (first | (refine (HL1.out w' hw').mono ?_; rintro e w3 ⟨rfl, x3⟩; exact ⟨rfl, by rw [x3]; exact hw'⟩) | (refine (HL2.out w' hw').mono ?_; rintro e w3 ⟨rfl, x3⟩; exact ⟨rfl, by rw [x3]; exact hw'⟩) | (refine (HL3.out w' hw').mono ?_; rintro e w3 ⟨rfl, x3⟩; exact ⟨rfl, by rw [x3]; exact hw'⟩) | (refine (HL4.out w' hw').mono ?_; rintro e w3 ⟨rfl, x3⟩; exact ⟨rfl, by rw [x3]; exact hw'⟩)))); try simp only [Act.put, List.setIfInBounds_toArray, List.set_cons_zero, List.set_cons_succ])
      iterate 3 (refine QW.take (by rfl) ?_; apply Exists.intro; refine ⟨fun w' hw' => ?_, ?_⟩; (· (obtain ⟨g1, g2, g3, g4⟩ := HR2.out w' hw'; go_simp; first | done | (first | done | rfl))); try simp only [Act.put, List.setIfInBounds_toArray, List.set_cons_zero, List.set_cons_succ])
      refine QW.nil ?_
      intro w12 x12
      have X12 := hide (bt X11.out x12 (Nat.le_refl _))
      clear x12
      go_wp2
      go_ret
      exact ⟨rfl, StK.start (bt Y2.out X3.out (Nat.le_refl _)) (St.after T1.out X12.out)⟩
end
end Go.Proofs.Ytkklphmhbbjmcaa
