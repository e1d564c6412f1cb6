/-
  A step of the script: Sizes, Len, Most. Condition: no more lists than a process can hold.
-/
import Derived.Test.YtkklphmhbbjmcaaStn
namespace Go.Proofs.Ytkklphmhbbjmcaa
open Go.RowKit Go.Lib Go.Maps

section
variable {w : World} {base wb : Nat} {sv lv : Value} {D : List LD} {X : Nat → List Value} {a x : Nat} {S : List Int} {M : Int} {N : List Nd} {m : Nat} {P Q : Nat → Prop}
set_option maxRecDepth 100000 in
set_option maxHeartbeats 8000000 in
theorem stepSizes (o : OpZ) (h : St w base wb sv lv D X a x S M N m P Q) (hb : base ≤ w.heap.size) (hD : D.length ≤ 2932031007402) (hw : ¬ (o.what = 0 ∨ o.what = 1 ∨ o.what = 2 ∨ o.what = 3) ∧ ¬ (o.what = 4 ∨ o.what = 5) ∧ ¬ o.what = 7) :
    Calls Try.prog 8 #[.pointer (some ⟨wb, 0, none⟩), .agg #[.pointer (some ⟨a, 0, none⟩), .pointer (some ⟨x, 0, none⟩)], .agg (opC o)] w fun e w' => e = .returned (.bool true) ∧ StK w base wb sv lv D a x S M m P Q N w' := by
  obtain ⟨i22, hi22, hy0, hy1, hy2⟩ := info_parts Try.info22
  obtain ⟨y2, b1, b2⟩ := boxed w (.pointer (some ⟨a, 0, none⟩)) (.pointer (some ⟨x, 0, none⟩)) (opC o)
  have hS1 := h.sd.ca.ok.sz.le
  have HH := hide h
  have Y2 := hide y2
  have B1 := hide b1
  have B2 := hide b2
  clear h y2 b1 b2
  obtain ⟨other, near, what, n, ka, K, kc⟩ := o
  unfold opC at *
  simp only at *
  have v0 : (what == 0) = false := by simpa using (fun e => hw.1 (.inl e) : ¬ what = 0)
  have v1 : (what == 1) = false := by simpa using (fun e => hw.1 (.inr (.inl e)) : ¬ what = 1)
  have v2 : (what == 2) = false := by simpa using (fun e => hw.1 (.inr (.inr (.inl e))) : ¬ what = 2)
  have v3 : (what == 3) = false := by simpa using (fun e => hw.1 (.inr (.inr (.inr e))) : ¬ what = 3)
  have v4 : (what == 4) = false := by simpa using (fun e => hw.2.1 (.inl e) : ¬ what = 4)
  have v5 : (what == 5) = false := by simpa using (fun e => hw.2.1 (.inr e) : ¬ what = 5)
  have v7 : (what == 7) = false := by simpa using hw.2.2
  clear hw
  go_enter Try.func8, Try.ntmps8
  go_upto_region 1 with fail
  generalize (w.alloc (.cells #[.pointer (some ⟨a, 0, none⟩), .pointer (some ⟨x, 0, none⟩)] 34)).alloc _ = w2 at *
  have hw0 : w.heap.size < w2.heap.size := lt_of_block B1.out
  obtain ⟨q0, q1⟩ := cell_two B1.out
  obtain ⟨p0, p1, p2, p3, p4⟩ := cell_five B2.out
  have H2 := hide (HH.out.below Y2.out)
  have hb2 : base ≤ w2.heap.size := Nat.le_trans hb Y2.out.size
  have HC := hide H2.out.sd.ca.sizes
  go_upto_region 23 with (go_at_call 28; refine HC.out.mono ?_; rintro e w4 ⟨⟨g, c, rfl, o4, z4, -⟩, x4⟩; have O4 := hide o4; have X4 := hide x4; clear o4 z4 x4)
  clear p0 p1 p2 p3 p4 q0 q1 HC v0 v1 v2 v3 v4 v5 v7
  have H4 := hide (H2.out.below X4.out)
  have hb4 := ((X4.out.block _ hw0).trans B1.out)
  obtain ⟨la, lc, hlv, -⟩ := own_shape H2.out.wd.ls.row
  subst hlv
  have c1 : w4.cell? ⟨wb, 1, none⟩ = some (.slice la D.length lc) := (cell_two H4.out.wd.blk).2
  have y5 : Below w4.heap.size w4 (w4.alloc (.cells #[.slice (some ⟨g, 0, none⟩) S.length c] 22)) := al (Below.refl _ _) _
  have H5 := hide (H4.out.below y5)
  have X5 := hide (bt X4.out y5 (Nat.le_refl _))
  have O5 := hide (own_below O4.out y5)
  have hb5 := hide ((y5.block _ (lt_of_block hb4)).trans hb4)
  have hE5 : Hid (base ≤ (w4.alloc (.cells #[.slice (some ⟨g, 0, none⟩) S.length c] 22)).heap.size) := Nat.le_trans hb2 X5.out.size
  clear hb4 y5
  go_upto_region 24 with (at_builtin; refine wpList_append_lies _ rfl (.tmp 135) (.tmp 137) 36 rfl base 22 i22 (.slice none 0 0) 1 24 Try.underlying36 hi22 hy0 hy1 hy2 rfl (by decide) _ D.length (D.map LD.v) rfl H5.out.wd.ls.row ⟨w4.heap.size, 0, none⟩ 1 1 [.slice (some ⟨g, 0, none⟩) S.length c] rfl rfl (one_new w4 _ _) (by simp [Value.oneCell']) (by decide) (by unfold maxLen; omega) (by omega) hE5.out _ rfl ?_; intro g9 cap9 w9 h1 h2 h3 h4; obtain ⟨t1, t2, t3, t4⟩ := H2.out.pushed (d := ⟨.slice (some ⟨g, 0, none⟩) S.length c, S.length⟩) (lv' := .slice (some ⟨g9, 0, none⟩) (D.length + 1) cap9) X5.out O5.out (by simp only; omega) hb2 (kept_of_grown h2) h1 (fun k hk => by
        have e : g9 = k := Option.some.inj hk
        rw [← e]
        exact h3.imp id (fun e => by omega)); have T1 := hide t1; have T2 := hide t2; have T3 := hide t3; have c9 := (cell_two t4).2; have f9 := frozen_of_row w9 wb 1 _ _ t4; clear h1 h2 h3 h4 t1 t2 t3 t4)
  clear c1 c9 f9
  have HNE : Hid (∀ {b : Nat} {cs : Array Value} {t : TypeId} {f : Nat × Nat}, (w4.alloc (.cells #[.slice (some ⟨g, 0, none⟩) S.length c] 22)).heap[b]? = some (.cells cs t f) → t ≠ 38 → t ≠ 22 → ¬ (b = wb ∨ (Value.slice la D.length lc).ownBlock = some b)) := fun hb' h1 h2 hF => by
    rcases hF with hF | hF
    · exact blocks_ne hb' H5.out.wd.blk h1 hF
    · obtain ⟨cs, h5⟩ := own_ty H5.out.wd.ls.row _ hF
      exact blocks_ne hb' h5 h2 rfl
  have K9 := hide ((T3.out.block w.heap.size (lt_of_block hb5.out) (HNE.out hb5.out (by decide) (by decide))).trans hb5.out)
  have O9 := hide (own_kept O5.out T3.out (fun k hk => by
    obtain ⟨cs, h5⟩ := own_ty O5.out k hk
    exact HNE.out h5 (by decide) (by decide)))
  generalize w9.setCell ⟨wb, 1, none⟩ (.slice (some ⟨g9, 0, none⟩) (D.length + 1) cap9) = w10 at *
  clear HNE O5 H5 X5 T3 H4 X4 O4 hE5 hb5
  obtain ⟨sb, sc, s0, s1, s2, hxl⟩ := T2.out.ra.fields
  have HSM := hide (same_any (some ⟨g, 0, none⟩) (some ⟨sb, 0, none⟩) c sc S S w10 (by omega) (own_zat O9.out) s2.at)
  rw [decide_eq_true rfl] at HSM
  obtain ⟨k0, k1⟩ := cell_two K9.out
  go_upto_region 25 with (go_at_call 16; refine HSM.out.mono ?_; rintro e w11 ⟨rfl, x11⟩; have X11 := hide x11; clear x11)
  have hkl := lt_of_block K9.out
  have HR2 : Hid (∀ V, Below w11.heap.size w11 V → V.cell? ⟨x, 1, none⟩ = some (.int .i64 M) ∧ V.cell? ⟨w.heap.size, 0, none⟩ = some (.pointer (some ⟨a, 0, none⟩)) ∧ V.cell? ⟨w.heap.size, 1, none⟩ = some (.pointer (some ⟨x, 0, none⟩))) := fun V y => by
    have y2 := bt X11.out y (Nat.le_refl _)
    obtain ⟨a0, a1⟩ := cell_two ((y2.block _ hkl).trans K9.out)
    exact ⟨(y2.cell (p := ⟨x, 1, none⟩) hxl).trans s1, a0, a1⟩
  clear HSM k0 k1 s0 s1 s2
  have HL1 : Hid (∀ V, Below w11.heap.size w11 V → Calls Try.prog 12 #[.pointer (some ⟨a, 0, none⟩)] V fun e w' => e = .returned (.int .i64 (N.length : Int)) ∧ w' = V) := fun V y => (T2.out.ca.below (bt X11.out y (Nat.le_refl _))).len
  have HL2 : Hid (∀ V, Below w11.heap.size w11 V → Calls Try.prog 10 #[.pointer (some ⟨x, 0, none⟩)] V fun e w' => e = .returned (.int .i64 (N.length : Int)) ∧ w' = V) := fun V y => (T2.out.ra.below (bt X11.out y (Nat.le_refl _))).len
  have HL3 : Hid (∀ V, Below w11.heap.size w11 V → Calls Try.prog 13 #[.pointer (some ⟨a, 0, none⟩)] V fun e w' => e = .returned (.int .i64 M) ∧ w' = V) := fun V y => (T2.out.ca.below (bt X11.out y (Nat.le_refl _))).most
  generalize N.length = l1 at *
  have eq1 : ((l1 : Int) == (l1 : Int)) = true := by simp
  have eq2 : (M == M) = true := by simp
  have HDr : Hid (Below w11.heap.size w11 w11.drew) := (Below.refl _ _).drew
  refine wp_region_quiet (C := fun w' => Below w11.heap.size w11 w') (by kernel_rfl) (by kernel_rfl) HDr.out ?_
  refine QW.out (l := _ :: _) ?_
  iterate 4 (refine QW.take (by rfl) ?_; apply Exists.intro; refine ⟨fun w' hw' => ?_, ?_⟩; (· (obtain ⟨g1, g2, g3⟩ := HR2.out w' hw'; go_simp; first | done | (first | done | rfl))); try simp only [Act.put, List.setIfInBounds_toArray, List.set_cons_zero, List.set_cons_succ])
  iterate 1 (refine QW.take (by rfl) ?_; apply Exists.intro; refine ⟨fun w' hw' => ?_, ?_⟩; (· (obtain ⟨g1, g2, g3⟩ := HR2.out w' hw'; go_simp; (first | (refine (HL1.out w' hw').mono ?_; rintro e w3 ⟨rfl, x3⟩; exact ⟨rfl, by rw [x3]; exact hw'⟩) | (refine (HL2.out w' hw').mono ?_; rintro e w3 ⟨rfl, x3⟩; exact ⟨rfl, by rw [x3]; exact hw'⟩) | (refine (HL3.out w' hw').mono ?_; rintro e w3 ⟨rfl, x3⟩; exact ⟨rfl, by rw [x3]; exact hw'⟩)))); try simp only [Act.put, List.setIfInBounds_toArray, List.set_cons_zero, List.set_cons_succ])
  iterate 2 (refine QW.take (by rfl) ?_; apply Exists.intro; refine ⟨fun w' hw' => ?_, ?_⟩; (· (obtain ⟨g1, g2, g3⟩ := HR2.out w' hw'; go_simp; first | done | (first | done | rfl))); try simp only [Act.put, List.setIfInBounds_toArray, List.set_cons_zero, List.set_cons_succ])
  iterate 1 (refine QW.take (by rfl) ?_; apply Exists.intro; refine ⟨fun w' hw' => ?_, ?_⟩; (· (obtain ⟨g1, g2, g3⟩ := HR2.out w' hw'; go_simp; (first | (refine (HL1.out w' hw').mono ?_; rintro e w3 ⟨rfl, x3⟩; exact ⟨rfl, by rw [x3]; exact hw'⟩) | (refine (HL2.out w' hw').mono ?_; rintro e w3 ⟨rfl, x3⟩; exact ⟨rfl, by rw [x3]; exact hw'⟩) | (refine (HL3.out w' hw').mono ?_; rintro e w3 ⟨rfl, x3⟩; exact ⟨rfl, by rw [x3]; exact hw'⟩)))); try simp only [Act.put, List.setIfInBounds_toArray, List.set_cons_zero, List.set_cons_succ])
  iterate 5 (refine QW.take (by rfl) ?_; apply Exists.intro; refine ⟨fun w' hw' => ?_, ?_⟩; (· (obtain ⟨g1, g2, g3⟩ := HR2.out w' hw'; go_simp; first | done | (first | done | rfl))); try simp only [Act.put, List.setIfInBounds_toArray, List.set_cons_zero, List.set_cons_succ])
  iterate 1 (refine QW.take (by rfl) ?_; apply Exists.intro; refine ⟨fun w' hw' => ?_, ?_⟩; (· (obtain ⟨g1, g2, g3⟩ := HR2.out w' hw'; go_simp; (first | (refine (HL1.out w' hw').mono ?_; rintro e w3 ⟨rfl, x3⟩; exact ⟨rfl, by rw [x3]; exact hw'⟩) | (refine (HL2.out w' hw').mono ?_; rintro e w3 ⟨rfl, x3⟩; exact ⟨rfl, by rw [x3]; exact hw'⟩) | (refine (HL3.out w' hw').mono ?_; rintro e w3 ⟨rfl, x3⟩; exact ⟨rfl, by rw [x3]; exact hw'⟩)))); try simp only [Act.put, List.setIfInBounds_toArray, List.set_cons_zero, List.set_cons_succ])
  iterate 8 (refine QW.take (by rfl) ?_; apply Exists.intro; refine ⟨fun w' hw' => ?_, ?_⟩; (· (obtain ⟨g1, g2, g3⟩ := HR2.out w' hw'; go_simp; first | done | (first | done | rfl))); try simp only [Act.put, List.setIfInBounds_toArray, List.set_cons_zero, List.set_cons_succ])
  refine QW.nil ?_
  intro w12 x12
  have X12 := hide (bt X11.out x12 (Nat.le_refl _))
  clear x12
  go_wp2
  go_ret
  exact ⟨rfl, StK.start Y2.out (St.after T1.out X12.out)⟩
theorem StK.mono {m' : Nat} {w' : World} {N' : List Nd} (h : StK w base wb sv lv D a x S M m P Q N' w') (hm : m ≤ m') : StK w base wb sv lv D a x S M m' P Q N' w' := by
  obtain ⟨lv', D', X', P', Q', g1, g2⟩ := h
  exact ⟨lv', D', X', P', Q', ⟨⟨g1.sd.ca.mono hm, g1.sd.ra, g1.sd.pq, g1.sd.pb, g1.sd.qb⟩, g1.wd, g1.dis⟩, g2⟩
theorem StL.mono {m' : Nat} {w' : World} (h : StL w base wb sv lv D a x S M m P Q w') (hm : m ≤ m') : StL w base wb sv lv D a x S M m' P Q w' := by
  obtain ⟨N', h⟩ := h
  exact ⟨N', h.mono hm⟩
/-- A step of whatever kind. -/
theorem step_any (o : OpZ) (h : St w base wb sv lv D X a x S M N m P Q) (ho : OpOk w o) (hob : ∀ b off, o.ka = some ⟨b, off, none⟩ → o.K ≠ [] → b < base) (hb : base ≤ w.heap.size) (hm : m ≤ 1152921504606846976) (hD : D.length ≤ 2932031007402) :
    Calls Try.prog 8 #[.pointer (some ⟨wb, 0, none⟩), .agg #[.pointer (some ⟨a, 0, none⟩), .pointer (some ⟨x, 0, none⟩)], .agg (opC o)] w fun e w' => e = .returned (.bool true) ∧ StL w base wb sv lv D a x S M (m + 1) P Q w' := by
  by_cases h0 : o.what = 0 ∨ o.what = 1 ∨ o.what = 2 ∨ o.what = 3
  · exact stepMake o h ho hob hb hm h0
  by_cases h1 : o.what = 4 ∨ o.what = 5
  · exact (stepNode o h ho hb hD h1).mono fun e w' ⟨g1, g2⟩ => ⟨g1, N, g2.mono (Nat.le_succ _)⟩
  by_cases h2 : o.what = 7
  · exact (stepBack o h ho h2).mono fun e w' ⟨g1, g2⟩ => ⟨g1, g2.mono (Nat.le_succ _)⟩
  · exact (stepSizes o h hb hD ⟨h0, h1, h2⟩).mono fun e w' ⟨g1, g2⟩ => ⟨g1, N, g2.mono (Nat.le_succ _)⟩
end
end Go.Proofs.Ytkklphmhbbjmcaa
