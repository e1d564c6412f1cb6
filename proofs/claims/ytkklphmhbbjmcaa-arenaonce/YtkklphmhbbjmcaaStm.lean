/-
  A step of the script: Make; Back. Condition: numbers of the machine's kind; lists no longer than a process can hold.
-/
import Derived.Test.YtkklphmhbbjmcaaStb
namespace Go.Proofs.Ytkklphmhbbjmcaa
open Go.RowKit Go.Lib Go.Maps

theorem boxed (w : World) (p q : Value) (cs : Array Value) : Below w.heap.size w ((w.alloc (.cells #[p, q] 34)).alloc (.cells cs 40)) ∧ ((w.alloc (.cells #[p, q] 34)).alloc (.cells cs 40)).heap[w.heap.size]? = some (.cells #[p, q] 34 (0, 0)) ∧ ((w.alloc (.cells #[p, q] 34)).alloc (.cells cs 40)).heap[w.heap.size + 1]? = some (.cells cs 40 (0, 0)) := by
  have y1 : Below w.heap.size w (w.alloc (.cells #[p, q] 34)) := al (Below.refl _ _) _
  have b1 := heap_alloc_new w (.cells #[p, q] 34)
  have y2 : Below (w.alloc (.cells #[p, q] 34)).heap.size (w.alloc (.cells #[p, q] 34)) ((w.alloc (.cells #[p, q] 34)).alloc (.cells cs 40)) := al (Below.refl _ _) _
  have b2 := heap_alloc_new (w.alloc (.cells #[p, q] 34)) (.cells cs 40)
  rw [show (w.alloc (.cells #[p, q] 34)).heap.size = w.heap.size + 1 by simp] at b2
  exact ⟨bt y1 y2 (Nat.le_refl _), (y2.block w.heap.size (lt_of_block b1)).trans b1, b2⟩
section
variable {w : World} {base wb : Nat} {sv lv : Value} {D : List LD} {X : Nat → List Value} {a x : Nat} {S : List Int} {M : Int} {N : List Nd} {m : Nat} {P Q : Nat → Prop}
/-- Only the side was written. -/
theorem St.side (h : St w base wb sv lv D X a x S M N m P Q) {w' : World} {m' : Nat} (h1 : SdL w base a x S M m' P Q w') (h2 : Kept (fun k => P k ∨ Q k) w w') : StL w base wb sv lv D a x S M m' P Q w' := by
  obtain ⟨N', P', Q', g1, g2, g3⟩ := h1
  obtain ⟨l1, l2, l3⟩ := h.wd.lt
  refine ⟨N', lv, D, X, P', Q', ⟨g1, h.wd.kept h2 (fun hF => (h.dis wb hF).1 rfl) (fun k hk hF => (h.dis k hF).2.1 hk) (fun k hk hF => (h.dis k hF).2.2 hk), fun k hk => ?_⟩, g2, g3, fun k hk => .inl hk, fun k hk => .inl hk, Nat.le_succ _, h2.mono (fun k hk => hk.elim .inl (fun h => .inr (.inl h)))⟩
  have hc : (P k ∨ Q k) ∨ w.heap.size ≤ k := by
    rcases hk with hk | hk
    · exact (g2 k hk).imp .inl id
    · exact (g3 k hk).imp .inr id
  rcases hc with hc | hc
  · exact h.dis k hc
  · exact ⟨fun e => by omega, fun hk => by have := (l2 k hk).2; omega, fun hk => by have := (l3 k hk).2; omega⟩
theorem StK.start {w0 w1 w' : World} {m' : Nat} {N' : List Nd} (y : Below w0.heap.size w0 w1) (h : StK w1 base wb sv lv D a x S M m' P Q N' w') : StK w0 base wb sv lv D a x S M m' P Q N' w' := by
  obtain ⟨lv', D', X', P', Q', g1, g2, g3, g4, g5, g6, g7⟩ := h
  exact ⟨lv', D', X', P', Q', g1, fun k hk => (g2 k hk).imp id (Nat.le_trans y.size), fun k hk => (g3 k hk).imp id (Nat.le_trans y.size), fun k hk => (g4 k hk).imp id (Nat.le_trans y.size), fun k hk => (g5 k hk).imp id (Nat.le_trans y.size), g6, (Kept.of_below y).trans g7⟩
theorem StL.start {w0 w1 w' : World} {m' : Nat} (y : Below w0.heap.size w0 w1) (h : StL w1 base wb sv lv D a x S M m' P Q w') : StL w0 base wb sv lv D a x S M m' P Q w' := by
  obtain ⟨N', h⟩ := h
  exact ⟨N', h.start y⟩
set_option maxRecDepth 100000 in
set_option maxHeartbeats 4000000 in
theorem stepMake (o : OpZ) (h : St w base wb sv lv D X a x S M N m P Q) (ho : OpOk w o) (hob : ∀ b off, o.ka = some ⟨b, off, none⟩ → o.K ≠ [] → b < base) (hb : base ≤ w.heap.size) (hm : m ≤ 1152921504606846976) (hw : o.what = 0 ∨ o.what = 1 ∨ o.what = 2 ∨ o.what = 3) :
    Calls Try.prog 8 #[.pointer (some ⟨wb, 0, none⟩), .agg #[.pointer (some ⟨a, 0, none⟩), .pointer (some ⟨x, 0, none⟩)], .agg (opC o)] w fun e w' => e = .returned (.bool true) ∧ StL w base wb sv lv D a x S M (m + 1) P Q w' := by
  obtain ⟨y2, b1, b2⟩ := boxed w (.pointer (some ⟨a, 0, none⟩)) (.pointer (some ⟨x, 0, none⟩)) (opC o)
  have HMK : Hid (∀ V, Below w.heap.size w V → _) := fun V (y : Below w.heap.size w V) => makes_any (wb := wb) o (h.sd.below y) (ho.below y) hob (Nat.le_trans hb y.size) hm
  have HH := hide h
  have Y2 := hide y2
  have B1 := hide b1
  have B2 := hide b2
  clear h ho hob y2 b1 b2
  obtain ⟨other, near, what, n, ka, K, kc⟩ := o
  unfold opC at *
  simp only at *
  rcases hw with rfl | rfl | rfl | rfl
  all_goals
    go_enter Try.func8, Try.ntmps8
    go_upto_region 1 with fail
    generalize (w.alloc (.cells #[.pointer (some ⟨a, 0, none⟩), .pointer (some ⟨x, 0, none⟩)] 34)).alloc _ = w2 at *
    obtain ⟨q0, q1⟩ := cell_two B1.out
    obtain ⟨p0, p1, p2, p3, p4⟩ := cell_five B2.out
    have HM2 := hide (HMK.out w2 Y2.out)
    go_wp2_with (go_at_call 21; refine HM2.out.mono ?_; rintro e w3 ⟨rfl, h3, k3⟩; have H3 := hide h3; have K3 := hide k3; clear h3 k3)
    go_ret
    exact ⟨rfl, StL.start Y2.out ((HH.out.below Y2.out).side H3.out K3.out)⟩
theorem bk_both {w w1 w2 : World} {base a x : Nat} {S : List Int} {M : Int} {N : List Nd} {m : Nat} {P Q : Nat → Prop} {n : Int} {e1 e2 : Ending} (h : Sd w base a x S M N m P Q)
    (a1 : BkL N n w e1 w1 (fun N' V => CA V a S M N' m P) P) (b1 : BkL N n w1 e2 w2 (fun N' V => RA V x S M N' Q) Q) :
    ∃ er : Int, e1 = .returned (.int .i64 er) ∧ e2 = .returned (.int .i64 er) ∧ SdL w base a x S M m P Q w2 ∧ Kept (fun k => P k ∨ Q k) w w2 := by
  rcases a1 with ⟨c1, c2, rfl, c3, c4⟩ | ⟨c1, rfl, c3⟩
  · rcases b1 with ⟨_, _, rfl, d3, d4⟩ | ⟨d1, _⟩
    · exact ⟨0, rfl, rfl, ⟨_, P, Q, ⟨c3.kept d4 h.pq, d3, h.pq, h.pb, h.qb⟩, fun k hk => .inl hk, fun k hk => .inl hk⟩, (c4.mono (fun _ h => .inl h)).trans (d4.mono (fun _ h => .inr h))⟩
    · exact absurd ⟨c1, c2⟩ d1
  · rcases b1 with ⟨d1, d2, _⟩ | ⟨_, rfl, d3⟩
    · exact absurd ⟨d1, d2⟩ c1
    · have y := bt c3 d3 (Nat.le_refl _)
      exact ⟨1, rfl, rfl, ⟨N, P, Q, h.below y, fun k hk => .inl hk, fun k hk => .inl hk⟩, Kept.of_below y⟩
set_option maxRecDepth 100000 in
set_option maxHeartbeats 4000000 in
theorem stepBack (o : OpZ) (h : St w base wb sv lv D X a x S M N m P Q) (ho : OpOk w o) (hw : o.what = 7) :
    Calls Try.prog 8 #[.pointer (some ⟨wb, 0, none⟩), .agg #[.pointer (some ⟨a, 0, none⟩), .pointer (some ⟨x, 0, none⟩)], .agg (opC o)] w fun e w' => e = .returned (.bool true) ∧ StL w base wb sv lv D a x S M m P Q w' := by
  obtain ⟨y2, b1, b2⟩ := boxed w (.pointer (some ⟨a, 0, none⟩)) (.pointer (some ⟨x, 0, none⟩)) (opC o)
  have hfit := ho.fit
  have hN := h.sd.ca.ok.few
  have hN1 := h.sd.ca.ok.m1
  have HH := hide h
  have Y2 := hide y2
  have B1 := hide b1
  have B2 := hide b2
  clear h ho y2 b1 b2
  obtain ⟨other, near, what, n, ka, K, kc⟩ := o
  unfold opC at *
  simp only at *
  subst hw
  go_enter Try.func8, Try.ntmps8
  go_upto_region 1 with fail
  generalize (w.alloc (.cells #[.pointer (some ⟨a, 0, none⟩), .pointer (some ⟨x, 0, none⟩)] 34)).alloc _ = w2 at *
  have hw0 : w.heap.size < w2.heap.size := lt_of_block B1.out
  have hw1 : w.heap.size + 1 < w2.heap.size := lt_of_block B2.out
  obtain ⟨q0, q1⟩ := cell_two B1.out
  obtain ⟨p0, p1, p2, p3, p4⟩ := cell_five B2.out
  have H2 := hide (HH.out.below Y2.out)
  have HRD : Hid (∀ V, Below w2.heap.size w2 V → V.cell? ⟨w.heap.size, 0, none⟩ = some (.pointer (some ⟨a, 0, none⟩)) ∧ V.cell? ⟨w.heap.size, 1, none⟩ = some (.pointer (some ⟨x, 0, none⟩)) ∧ V.cell? ⟨w.heap.size + 1, 3, none⟩ = some (.int .i64 n)) := fun V y => by
    obtain ⟨a0, a1⟩ := cell_two ((y.block _ hw0).trans B1.out)
    obtain ⟨-, -, -, p3, -⟩ := cell_five ((y.block _ hw1).trans B2.out)
    exact ⟨a0, a1, p3⟩
  go_upto_if 109 with fail
  clear q0 q1 p0 p1 p2 p3 p4
  go_cut [7] (fun v wx => ∃ n' : Int, v = .int .i64 n' ∧ Hid (Below w2.heap.size w2 wx))
  case first =>
    cases near
    · go_wp2
      go_meet
      exact ⟨n, rfl, Below.refl _ _⟩
    · have HPK := hide (fun V => pick_any n 4 hfit (by decide) (by decide) V)
      have hpl := pkZ_lt n (n := 4) (by decide)
      generalize pkZ n 4 = z at *
      have eS : IntKind.i64.wrap ((N.length : Int) - (z : Int)) = (N.length : Int) - (z : Int) := by simp [IntKind.wrap, IntKind.bits, IntKind.signed]; omega
      have HLN : Hid (∀ V, Below w2.heap.size w2 V → Calls Try.prog 10 #[.pointer (some ⟨x, 0, none⟩)] V fun e w' => e = .returned (.int .i64 (N.length : Int)) ∧ w' = V) := fun V y => (H2.out.sd.ra.below y).len
      have HDr : Hid (Below w2.heap.size w2 w2.drew) := (Below.refl _ _).drew
      go_upto_region 19 with fail
      refine wp_region_quiet (C := fun w' => Below w2.heap.size w2 w') (by kernel_rfl) (by kernel_rfl) HDr.out ?_
      refine QW.out (l := _ :: _) ?_
      iterate 2 (refine QW.take (by rfl) ?_; apply Exists.intro; refine ⟨fun w' hw' => ?_, ?_⟩; (· (obtain ⟨g1, g2, g3⟩ := HRD.out w' hw'; go_simp; first | done | (first | done | rfl))); try simp only [Act.put, List.setIfInBounds_toArray, List.set_cons_zero, List.set_cons_succ])
      iterate 1 (refine QW.take (by rfl) ?_; apply Exists.intro; refine ⟨fun w' hw' => ?_, ?_⟩; (· (obtain ⟨g1, g2, g3⟩ := HRD.out w' hw'; go_simp; (first | (refine (HLN.out w' hw').mono ?_; rintro e w3 ⟨rfl, x3⟩; exact ⟨rfl, by rw [x3]; exact hw'⟩) | (refine (HPK.out w').mono ?_; rintro e w3 ⟨rfl, x3⟩; exact ⟨rfl, by rw [x3]; exact hw'⟩)))); try simp only [Act.put, List.setIfInBounds_toArray, List.set_cons_zero, List.set_cons_succ])
      iterate 2 (refine QW.take (by rfl) ?_; apply Exists.intro; refine ⟨fun w' hw' => ?_, ?_⟩; (· (obtain ⟨g1, g2, g3⟩ := HRD.out w' hw'; go_simp; first | done | (first | done | rfl))); try simp only [Act.put, List.setIfInBounds_toArray, List.set_cons_zero, List.set_cons_succ])
      iterate 1 (refine QW.take (by rfl) ?_; apply Exists.intro; refine ⟨fun w' hw' => ?_, ?_⟩; (· (obtain ⟨g1, g2, g3⟩ := HRD.out w' hw'; go_simp; (first | (refine (HLN.out w' hw').mono ?_; rintro e w3 ⟨rfl, x3⟩; exact ⟨rfl, by rw [x3]; exact hw'⟩) | (refine (HPK.out w').mono ?_; rintro e w3 ⟨rfl, x3⟩; exact ⟨rfl, by rw [x3]; exact hw'⟩)))); try simp only [Act.put, List.setIfInBounds_toArray, List.set_cons_zero, List.set_cons_succ])
      iterate 3 (refine QW.take (by rfl) ?_; apply Exists.intro; refine ⟨fun w' hw' => ?_, ?_⟩; (· (obtain ⟨g1, g2, g3⟩ := HRD.out w' hw'; go_simp; first | done | (first | done | rfl))); try simp only [Act.put, List.setIfInBounds_toArray, List.set_cons_zero, List.set_cons_succ])
      refine QW.nil ?_
      intro w3 x3
      have X3 := hide x3
      clear x3
      generalize (if z < N.length then (N.length : Int) - (z : Int) else 0) = nn
      go_wp2
      go_meet
      exact ⟨nn, rfl, X3⟩
  case rest =>
    obtain ⟨n', rfl, X3⟩ := hcut
    have H3 := hide (H2.out.below X3.out)
    obtain ⟨g1, g2, g3⟩ := HRD.out wc X3.out
    have HC := hide (H3.out.sd.ca.back n')
    go_upto_region 21 with (go_at_call 26; refine HC.out.mono ?_; intro e w4 h4; obtain ⟨er, he⟩ : ∃ er : Int, e = .returned (.int .i64 er) := (by rcases h4 with ⟨_, _, h, _⟩ | ⟨_, h, _⟩ <;> exact ⟨_, h⟩); subst he; have H4 := hide h4; clear h4)
    clear g1 g2 g3 HC
    have K4 : Hid (Kept P wc w4) := by
      rcases H4.out with ⟨_, _, _, _, h⟩ | ⟨_, _, h⟩
      · exact h
      · exact Kept.of_below h
    have R4 := hide (H3.out.sd.ra.kept K4.out (fun k hq hp => H3.out.sd.pq k hp hq))
    have hxb : w4.cell? ⟨w.heap.size, 1, none⟩ = some (.pointer (some ⟨x, 0, none⟩)) := (K4.out.cell (p := ⟨w.heap.size, 1, none⟩) (Nat.lt_of_lt_of_le hw0 X3.out.size) (fun hp => by have h5 := HH.out.sd.ca.plt hp; simp only at h5; omega)).trans (HRD.out wc X3.out).2.1
    have HD := hide (R4.out.back n')
    go_wp2_with (go_at_call 27; refine HD.out.mono ?_; intro e w5 h5; obtain ⟨er2, he1, he2, s5, k5⟩ := bk_both H3.out.sd H4.out h5; injection he1 with he1; injection he1 with _ he1; subst he1; subst he2; have S5 := hide s5; have K5 := hide k5; clear h5 s5 k5)
    go_ret
    exact ⟨by simp, StL.start (bt Y2.out X3.out (Nat.le_refl _)) (H3.out.side S5.out K5.out)⟩
end
end Go.Proofs.Ytkklphmhbbjmcaa
