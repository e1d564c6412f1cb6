/-
  The statements' makes by its contract: both arenas answer the same. Condition: numbers of the machine's kind; lists no longer than a process can hold.
-/
import Derived.Test.YtkklphmhbbjmcaaKds
import Derived.Test.YtkklphmhbbjmcaaLnd
namespace Go.Proofs.Ytkklphmhbbjmcaa
open Go.RowKit Go.Lib Go.Maps

/-- A side: the program's arena and the document's; what they have lies above base. -/
structure Sd (w : World) (base a x : Nat) (S : List Int) (M : Int) (N : List Nd) (m : Nat) (P Q : Nat → Prop) : Prop where
  ca : CA w a S M N m P
  ra : RA w x S M N Q
  pq : ∀ k, P k → ¬ Q k
  pb : ∀ k, P k → base ≤ k
  qb : ∀ k, Q k → base ≤ k
theorem Sd.kept {F : Nat → Prop} {w w' : World} {base a x : Nat} {S : List Int} {M : Int} {N : List Nd} {m : Nat} {P Q : Nat → Prop} (h : Sd w base a x S M N m P Q) (hk : Kept F w w') (h1 : ∀ k, P k → ¬ F k) (h2 : ∀ k, Q k → ¬ F k) : Sd w' base a x S M N m P Q :=
  ⟨h.ca.kept hk h1, h.ra.kept hk h2, h.pq, h.pb, h.qb⟩
theorem Sd.below {w w' : World} {base a x : Nat} {S : List Int} {M : Int} {N : List Nd} {m : Nat} {P Q : Nat → Prop} (h : Sd w base a x S M N m P Q) (y : Below w.heap.size w w') : Sd w' base a x S M N m P Q :=
  ⟨h.ca.below y, h.ra.below y, h.pq, h.pb, h.qb⟩
/-- What a step on a side leaves. -/
def SdL (w : World) (base a x : Nat) (S : List Int) (M : Int) (m : Nat) (P Q : Nat → Prop) (w' : World) : Prop :=
  ∃ N' P' Q', Sd w' base a x S M N' m P' Q' ∧ (∀ k, P' k → P k ∨ w.heap.size ≤ k) ∧ (∀ k, Q' k → Q k ∨ w.heap.size ≤ k)
theorem set_first (L : List Int) : (L ++ [0, 0]).set L.length (-77) = L ++ [-77, 0] := by simp
theorem set_second (L : List Int) : (L ++ [-77, 0]).set (L.length + 1) (-77) = L ++ [-77, -77] := by simp
theorem mk_both {w w1 w2 : World} {base a x : Nat} {S : List Int} {M : Int} {N : List Nd} {m : Nat} {P Q : Nat → Prop} {lv f1 e1 f2 e2 : Int} {A : List Int} {N1 N2 : List Nd} {P' Q' : Nat → Prop} (h : Sd w base a x S M N m P Q) (hb : base ≤ w.heap.size)
    (a1 : MkP S M N lv A f1 e1 N1) (a2 : CA w1 a S M N1 (m + 1) P') (a3 : Kept P w w1) (a4 : ∀ k, P' k → P k ∨ w.heap.size ≤ k)
    (b1 : MkP S M N lv A f2 e2 N2) (b2 : RA w2 x S M N2 Q') (b3 : Kept Q w1 w2) (b4 : ∀ k, Q' k → Q k ∨ w1.heap.size ≤ k) :
    f1 = f2 ∧ e1 = e2 ∧ SdL w base a x S M (m + 1) P Q w2 ∧ Kept (fun k => P k ∨ Q k) w w2 := by
  obtain ⟨rfl, rfl, rfl⟩ := MkP.one h.ca.ok.nod a1 b1
  have hdis : ∀ k, P' k → ¬ Q k := fun k hp hq => by
    rcases a4 k hp with h5 | h5
    · exact h.pq k h5 hq
    · have := h.ra.plt hq; omega
  refine ⟨rfl, rfl, ⟨N1, P', Q', ⟨a2.kept b3 hdis, b2, fun k hp hq => ?_, fun k hp => ?_, fun k hq => ?_⟩, a4, fun k hq => (b4 k hq).imp id (Nat.le_trans a3.size)⟩, (a3.mono (fun _ h => .inl h)).trans (b3.mono (fun _ h => .inr h))⟩
  · rcases b4 k hq with h5 | h5
    · exact hdis k hp h5
    · have := a2.plt hp; omega
  · rcases a4 k hp with h5 | h5
    · exact h.pb k h5
    · omega
  · rcases b4 k hq with h5 | h5
    · exact h.qb k h5
    · have := a3.size; omega
set_option maxRecDepth 100000 in
set_option maxHeartbeats 8000000 in
theorem makes_any {w : World} {base wb a x : Nat} {S : List Int} {M : Int} {N : List Nd} {m : Nat} {P Q : Nat → Prop} (o : OpZ) (h : Sd w base a x S M N m P Q) (ho : OpOk w o) (hob : ∀ b off, o.ka = some ⟨b, off, none⟩ → o.K ≠ [] → b < base) (hb : base ≤ w.heap.size) (hm : m ≤ 1152921504606846976) :
    Calls Try.prog 21 #[.pointer (some ⟨wb, 0, none⟩), .agg #[.pointer (some ⟨a, 0, none⟩), .pointer (some ⟨x, 0, none⟩)], .agg (opC o)] w fun e w' => e = .returned (.bool true) ∧ SdL w base a x S M (m + 1) P Q w' ∧ Kept (fun k => P k ∨ Q k) w w' := by
  obtain ⟨i3, hi3, hz30, hz31, hz32⟩ := info_parts Try.info3
  have HO := hide ho
  have HH := hide h
  have HOB := hide hob
  have hS0 := h.ca.ok.sz.ge
  have hS1 := h.ca.ok.sz.le
  have hfit := ho.fit
  clear h ho hob
  have y1 : Below w.heap.size w (w.alloc (.cells #[.pointer (some ⟨a, 0, none⟩), .pointer (some ⟨x, 0, none⟩)] 34)) := al (Below.refl _ _) _
  have b1 := heap_alloc_new w (.cells #[.pointer (some ⟨a, 0, none⟩), .pointer (some ⟨x, 0, none⟩)] 34)
  have y2 : Below (w.alloc (.cells #[.pointer (some ⟨a, 0, none⟩), .pointer (some ⟨x, 0, none⟩)] 34)).heap.size (w.alloc (.cells #[.pointer (some ⟨a, 0, none⟩), .pointer (some ⟨x, 0, none⟩)] 34)) ((w.alloc (.cells #[.pointer (some ⟨a, 0, none⟩), .pointer (some ⟨x, 0, none⟩)] 34)).alloc (.cells (opC o) 40)) := al (Below.refl _ _) _
  have b2 := heap_alloc_new (w.alloc (.cells #[.pointer (some ⟨a, 0, none⟩), .pointer (some ⟨x, 0, none⟩)] 34)) (.cells (opC o) 40)
  rw [show (w.alloc (.cells #[.pointer (some ⟨a, 0, none⟩), .pointer (some ⟨x, 0, none⟩)] 34)).heap.size = w.heap.size + 1 by simp] at b2
  have b1' := (y2.block w.heap.size (lt_of_block b1)).trans b1
  have Y2 := hide (bt y1 y2 (Nat.le_refl _))
  have B1 := hide b1'
  have B2 := hide b2
  have HKD : Hid (∀ V, Below w.heap.size w V → Calls Try.prog 33 #[.agg #[.pointer (some ⟨a, 0, none⟩), .pointer (some ⟨x, 0, none⟩)], .agg (opC o)] V fun e w' => (∃ ao c L, e = .returned (.slice ao L.length c) ∧ ZAt w' ao L ∧ L.length ≤ 17592186043904 ∧ ∀ b off, ao = some ⟨b, off, none⟩ → (o.ka = some ⟨b, off, none⟩ ∧ L = o.K) ∨ V.heap.size ≤ b) ∧ Below V.heap.size V w') := fun V y => kids_any o (HH.out.ra.below y) (HO.out.below y)
  clear y1 y2 b1 b2 b1'
  obtain ⟨other, near, what, n, ka, K, kc⟩ := o
  unfold opC at *
  simp only at *
  have hw0 : w.heap.size < ((w.alloc (.cells #[.pointer (some ⟨a, 0, none⟩), .pointer (some ⟨x, 0, none⟩)] 34)).alloc (.cells #[.bool other, .bool near, .int .i64 what, .int .i64 n, .slice ka K.length kc] 40)).heap.size := lt_of_block B1.out
  have hw1 : w.heap.size + 1 < ((w.alloc (.cells #[.pointer (some ⟨a, 0, none⟩), .pointer (some ⟨x, 0, none⟩)] 34)).alloc (.cells #[.bool other, .bool near, .int .i64 what, .int .i64 n, .slice ka K.length kc] 40)).heap.size := lt_of_block B2.out
  go_enter Try.func21, Try.ntmps21
  go_upto_region 1 with fail
  generalize (w.alloc (.cells #[.pointer (some ⟨a, 0, none⟩), .pointer (some ⟨x, 0, none⟩)] 34)).alloc (.cells #[.bool other, .bool near, .int .i64 what, .int .i64 n, .slice ka K.length kc] 40) = w2 at *
  obtain ⟨sb, sc, s0, -, -, hxl⟩ := (HH.out.ra.below Y2.out).fields
  have HRD : Hid (∀ V, Below w2.heap.size w2 V → V.cell? ⟨w.heap.size, 0, none⟩ = some (.pointer (some ⟨a, 0, none⟩)) ∧ V.cell? ⟨w.heap.size, 1, none⟩ = some (.pointer (some ⟨x, 0, none⟩)) ∧ V.cell? ⟨w.heap.size + 1, 3, none⟩ = some (.int .i64 n) ∧ V.cell? ⟨x, 0, none⟩ = some (.slice (some ⟨sb, 0, none⟩) S.length sc)) := fun V y => by
    obtain ⟨a0, a1⟩ := cell_two ((y.block _ hw0).trans B1.out)
    obtain ⟨-, -, -, p3, -⟩ := cell_five ((y.block _ hw1).trans B2.out)
    exact ⟨a0, a1, p3, (y.cell (p := ⟨x, 0, none⟩) hxl).trans s0⟩
  clear s0
  have HPK : Hid (∀ V, Below w2.heap.size w2 V → Calls Try.prog 11 #[.int .i64 n, .int .i64 (S.length : Int)] V fun e w' => e = .returned (.int .i64 (pkZ n S.length : Nat)) ∧ Below w2.heap.size w2 w') := fun V y => (pick_any n S.length hfit (by omega) (by omega) V).mono fun e w' ⟨h1, h2⟩ => ⟨h1, by rw [h2]; exact y⟩
  obtain ⟨p0, p1, p2, p3, p4⟩ := cell_five B2.out
  go_upto_if 20 with fail
  clear p0 p1 p2 p3 p4
  go_cut [7] (fun v wx => ∃ lv : Int, v = .int .i64 lv ∧ Hid (Below w2.heap.size w2 wx))
  case first =>
    cases near
    · go_wp2
      go_meet
      exact ⟨n, rfl, Below.refl _ _⟩
    · have HDr : Hid (Below w2.heap.size w2 w2.drew) := (Below.refl _ _).drew
      go_upto_region 3 with fail
      refine wp_region_quiet (C := fun w' => Below w2.heap.size w2 w') (by kernel_rfl) (by kernel_rfl) HDr.out ?_
      refine QW.out (l := _ :: _) ?_
      iterate 8 (refine QW.take (by rfl) ?_; apply Exists.intro; refine ⟨fun w' hw' => ?_, ?_⟩; (· (obtain ⟨g1, g2, g3, g4⟩ := HRD.out w' hw'; go_simp; first | done | (first | done | rfl))); try simp only [Act.put, List.setIfInBounds_toArray, List.set_cons_zero, List.set_cons_succ])
      iterate 1 (refine QW.take (by rfl) ?_; apply Exists.intro; refine ⟨fun w' hw' => ?_, ?_⟩; (· (obtain ⟨g1, g2, g3, g4⟩ := HRD.out w' hw'; go_simp; (refine (HPK.out w' hw').mono ?_; rintro e w3 ⟨rfl, x3⟩; exact ⟨rfl, x3⟩))); try simp only [Act.put, List.setIfInBounds_toArray, List.set_cons_zero, List.set_cons_succ])
      iterate 1 (refine QW.take (by rfl) ?_; apply Exists.intro; refine ⟨fun w' hw' => ?_, ?_⟩; (· (obtain ⟨g1, g2, g3, g4⟩ := HRD.out w' hw'; go_simp; first | done | (first | done | rfl))); try simp only [Act.put, List.setIfInBounds_toArray, List.set_cons_zero, List.set_cons_succ])
      refine QW.nil ?_
      intro w3 x3
      have X3 := hide x3
      clear x3
      go_wp2
      go_meet
      exact ⟨_, rfl, X3⟩
  case rest =>
    obtain ⟨lv, rfl, X3⟩ := hcut
    clear HPK
    have Z3 := hide (bt Y2.out X3.out (Nat.le_refl _))
    have HKD3 := hide (HKD.out wc Z3.out)
    have q0 := cell_two ((X3.out.block _ hw0).trans B1.out)
    obtain ⟨q0, q1⟩ := q0
    obtain ⟨p0, p1, p2, p3, p4⟩ := cell_five ((X3.out.block _ hw1).trans B2.out)
    go_upto_region 5 with (go_at_call 33; refine HKD3.out.mono ?_; rintro e w4 ⟨⟨la, lc, L, rfl, z4, l4, s4⟩, x4⟩; have HZ4 := hide z4; have S4 := hide s4; have X4 := hide (bt X3.out x4 (Nat.le_refl _)); clear z4 s4 x4)
    clear p0 p1 p2 p3 p4 q0 q1 HKD3 HKD
    have hc3 : ((L.length : Int) + 2) = ((L.length + 2 : Nat) : Int) := by omega
    have HC3 := hide hc3
    have HLC : Hid ((zC L).length = L.length * 1) := by unfold Hid; rw [zC_length, Nat.mul_one]
    have f1 : IntKind.i64.wrap ((L.length : Int) + 2) = (L.length : Int) + 2 := by simp [IntKind.wrap, IntKind.bits, IntKind.signed]; omega
    have f2 : IntKind.i64.wrap ((L.length : Int) + 1) = (L.length : Int) + 1 := by simp [IntKind.wrap, IntKind.bits, IntKind.signed]; omega
    clear hc3
    go_upto_region 7 with (first
      | (refine wpList_copy_wide rfl (.tmp 37) (.tmp 38) 22 22 rfl 3 1 Try.underlying22 Try.size3 w4.heap.size (L.length + 2) (L.length + 2) la L.length lc rfl rfl cur 3 G1.out (zC L) HLC.out (by omega) G3.out G2.out G4.out (zC_one L) ?_; generalize w5.setRow w4.heap.size (zC L ++ cur.toList.drop (zC L).length).toArray = w6 at G5 ⊢)
      | (refine wpList_make_full _ rfl (.tmp 35) (.tmp 35) 22 rfl w4.heap.size 3 i3 (.int .i64 0) 1 Try.underlying22 hi3 hz30 hz31 .i64 .i64 _ _ (L.length + 2) rfl rfl HC3.out HC3.out (by rw [hz32]; omega) (by unfold maxLen; omega) (Nat.le_refl _) ?_; intro w5 h1 h2; obtain ⟨cur, g1, g2, g3, g4, g5⟩ := len2_copied HZ4.out h1 h2; have G1 := hide g1; have G2 := hide g2; have G3 := hide g3; have G4 := hide g4; have G5 := hide g5; clear h1 h2 g1 g2 g3 g4 g5))
    clear G1 G2 G3 G4 HLC
    obtain ⟨o6, x6⟩ := G5.out
    obtain ⟨g, hg⟩ : ∃ g, g = w4.heap.size := ⟨_, rfl⟩
    have HGE := hide hg
    rw [← hg] at o6 ⊢
    have O6 := hide o6
    have X6 := hide (bt X4.out x6 (Nat.le_refl _))
    have Y6 := hide x6
    clear o6 x6 G5 hg
    -- the two behind it
    have l1 : (L ++ [0, 0]).length = L.length + 2 := by simp
    obtain ⟨o7, k7⟩ := O6.out.stored L.length (.int .i64 (-77))
    rw [zC_set, set_first] at o7
    obtain ⟨o8, k8⟩ := o7.stored (L.length + 1) (.int .i64 (-77))
    rw [zC_set, set_second] at o8
    have e6 : w6.cell? ⟨g, L.length, none⟩ = some (.int .i64 0) := by
      rw [World.ownsRow.cellAt O6.out L.length (by omega), zC_get _ (by rw [l1]; omega)]
      simp [List.getD_eq_getElem?_getD]
    have e7 : (w6.setCell ⟨g, L.length, none⟩ (.int .i64 (-77))).cell? ⟨g, L.length + 1, none⟩ = some (.int .i64 0) := by
      rw [World.ownsRow.cellAt o7 (L.length + 1) (by omega), zC_get _ (by simp)]
      simp [List.getD_eq_getElem?_getD]
    have f6 := O6.out.frozenAt (g := g) L.length
    have f7 := o7.frozenAt (g := g) (L.length + 1)
    have O8 := hide o8
    have K8 : Hid (Kept (fun k => k = g) w6 ((w6.setCell ⟨g, L.length, none⟩ (.int .i64 (-77))).setCell ⟨g, L.length + 1, none⟩ (.int .i64 (-77)))) := ((kept_of_grown k7).mono (fun k hk => by injection hk with hk; exact hk.symm)).trans ((kept_of_grown k8).mono (fun k hk => by injection hk with hk; exact hk.symm))
    clear o7 k7 o8 k8 l1
    have hll : (L.length : Int) < ((L.length + 2 : Nat) : Int) := by omega
    have hll1 : (L.length : Int) + 1 < ((L.length + 2 : Nat) : Int) := by omega
    go_upto_region 9 with fail
    clear e6 e7 f6 f7
    generalize (w6.setCell ⟨g, L.length, none⟩ (.int .i64 (-77))).setCell ⟨g, L.length + 1, none⟩ (.int .i64 (-77)) = w8 at *
    have hgw : w2.heap.size ≤ g := by rw [HGE.out]; exact X4.out.size
    have X8 : Hid (Below w2.heap.size w2 w8) := X6.out.trans (K8.out.below X6.out.size (fun k hk => by rw [hk]; exact hgw))
    have Y8 : Hid (Below w4.heap.size w4 w8) := Y6.out.trans (K8.out.below Y6.out.size (fun k hk => by rw [hk, HGE.out]; exact Nat.le_refl _))
    have Z8 := hide (HZ4.out.below Y8.out)
    have T8 := hide (bt Y2.out X8.out (Nat.le_refl _))
    clear X6 Y6 K8 O6
    have yd : Below w8.heap.size w8 w8.drew := (Below.refl _ _).drew
    have Td := hide (bt T8.out yd (Nat.le_refl _))
    have Xd := hide (bt X8.out yd (Nat.le_refl _))
    have Zd := hide (Z8.out.below yd)
    have Od := hide (own_below O8.out yd)
    have Sd0 := hide (HH.out.below Td.out)
    have hbd : Hid (base ≤ w8.drew.heap.size) := Nat.le_trans hb Td.out.size
    have HS0 : Hid (w8.drew.cell? ⟨w.heap.size, 0, none⟩ = some (.pointer (some ⟨a, 0, none⟩))) := (HRD.out _ Xd.out).1
    have HGD : Hid (g < w8.drew.heap.size) := (World.ownsRow.lt Od.out g rfl).2
    clear yd X8 Y8 Z8 T8 O8
    -- blocks that neither arena has
    have HNP : Hid (∀ k, w.heap.size ≤ k → ¬ P k ∧ ¬ Q k) := fun k hk => ⟨fun hp => by have := HH.out.ca.plt hp; omega, fun hq => by have := HH.out.ra.plt hq; omega⟩
    have HNL : Hid (∀ b off, la = some ⟨b, off, none⟩ → L ≠ [] → ¬ P b ∧ ¬ Q b) := fun b off e hne => by
      rcases S4.out b off e with ⟨h5, h7⟩ | h5
      · have h6 := HOB.out b off h5 (by rw [← h7]; exact hne)
        exact ⟨fun hp => by have := HH.out.pb b hp; omega, fun hq => by have := HH.out.qb b hq; omega⟩
      · exact HNP.out b (Nat.le_trans Z3.out.size h5)
    have hcap1 : L.length ≤ L.length + 2 := by omega
    have hcap1' : (L.length : Int) ≤ (L.length : Int) + 2 := by omega
    refine wp_unt (S := fun V => V.cell? ⟨w.heap.size, 0, none⟩ = some (.pointer (some ⟨a, 0, none⟩))) 12 (by kernel_rfl) ?_
    generalize w8.drew = wd at *
    refine UntH.take (i := 0) (some 50) rfl rfl (by kernel_rfl) (by kernel_rfl) (by kernel_rfl) (by kernel_rfl) (fun _ _ _ _ h => h) (by rfl) HS0.out ?_
    apply Exists.intro
    refine ⟨fun w' hw' => ?_, ?_⟩
    · have q0 := hw'
      go_simp
      first | done | rfl
    try simp only [Act.put, List.setIfInBounds_toArray, List.set_cons_zero, List.set_cons_succ]
    refine UntH.take (i := 1) (some 51) rfl rfl (by kernel_rfl) (by kernel_rfl) (by kernel_rfl) (by kernel_rfl) (fun _ _ _ _ h => h) (by rfl) HS0.out ?_
    apply Exists.intro
    refine ⟨fun w' hw' => ?_, ?_⟩
    · have q0 := hw'
      go_simp
      first | done | rfl
    try simp only [Act.put, List.setIfInBounds_toArray, List.set_cons_zero, List.set_cons_succ]
    refine UntH.take (i := 2) (some 52) rfl rfl (by kernel_rfl) (by kernel_rfl) (by kernel_rfl) (by kernel_rfl) (fun _ _ _ _ h => h) (by rfl) HS0.out ?_
    apply Exists.intro
    refine ⟨fun w' hw' => ?_, ?_⟩
    · have q0 := hw'
      go_simp
      first | done | rfl
    try simp only [Act.put, List.setIfInBounds_toArray, List.set_cons_zero, List.set_cons_succ]
    refine UntH.take (i := 3) (some 53) rfl rfl (by kernel_rfl) (by kernel_rfl) (by kernel_rfl) (by kernel_rfl) (fun _ _ _ _ h => h) (by rfl) HS0.out ?_
    apply Exists.intro
    refine ⟨fun w' hw' => ?_, ?_⟩
    · have q0 := hw'
      go_simp
      first | done | rfl
    try simp only [Act.put, List.setIfInBounds_toArray, List.set_cons_zero, List.set_cons_succ]
    refine UntH.take (i := 4) (some 54) rfl rfl (by kernel_rfl) (by kernel_rfl) (by kernel_rfl) (by kernel_rfl) (fun _ _ _ _ h => h) (by rfl) HS0.out ?_
    apply Exists.intro
    refine ⟨fun w' hw' => ?_, ?_⟩
    · have q0 := hw'
      go_simp
      first | done | rfl
    try simp only [Act.put, List.setIfInBounds_toArray, List.set_cons_zero, List.set_cons_succ]
    refine UntH.take (i := 5) (some 55) rfl rfl (by kernel_rfl) (by kernel_rfl) (by kernel_rfl) (by kernel_rfl) (fun _ _ _ _ h => h) (by rfl) HS0.out ?_
    apply Exists.intro
    refine ⟨fun w' hw' => ?_, ?_⟩
    · have q0 := hw'
      go_simp
      first | done | rfl
    try simp only [Act.put, List.setIfInBounds_toArray, List.set_cons_zero, List.set_cons_succ]
    refine UntH.take (i := 6) (some 56) rfl rfl (by kernel_rfl) (by kernel_rfl) (by kernel_rfl) (by kernel_rfl) (fun _ _ _ _ h => h) (by rfl) HS0.out ?_
    apply Exists.intro
    refine ⟨fun w' hw' => ?_, ?_⟩
    · have q0 := hw'
      go_simp
      first | done | rfl
    try simp only [Act.put, List.setIfInBounds_toArray, List.set_cons_zero, List.set_cons_succ]
    have HMC := hide (Sd0.out.ca.make lv (some ⟨g, 0, none⟩) (L.length + 2) L (by omega) (own_at Od.out) hm)
    refine UntH.step (i := 7) (by kernel_rfl) rfl (fun K hK => ?_)
    go_simp
    refine HMC.out.mono ?_
    rintro e w9 ⟨f9, e9, N9, rfl, m9, P9, c9, k9, p9, -⟩
    have HS9 : Hid (w9.cell? ⟨w.heap.size, 0, none⟩ = some (.pointer (some ⟨a, 0, none⟩))) := (k9.cell (p := ⟨w.heap.size, 0, none⟩) (Nat.lt_of_lt_of_le hw0 Xd.out.size) (HNP.out _ (Nat.le_refl _)).1).trans HS0.out
    refine hK _ _ HS9.out ?_
    have M9 := hide m9
    have C9 := hide c9
    have K9 := hide k9
    have P9' := hide p9
    clear hK K m9 c9 k9 p9 HMC
    try simp only [Act.put, List.setIfInBounds_toArray, List.set_cons_zero, List.set_cons_succ]
    refine UntH.take (i := 8) (some 49) rfl rfl (by kernel_rfl) (by kernel_rfl) (by kernel_rfl) (by kernel_rfl) (fun _ _ _ _ h => h) (by rfl) HS9.out ?_
    apply Exists.intro
    refine ⟨fun w' hw' => ?_, ?_⟩
    · have q0 := hw'
      go_simp
      first | done | rfl
    try simp only [Act.put, List.setIfInBounds_toArray, List.set_cons_zero, List.set_cons_succ]
    refine UntH.take (i := 9) (some 58) rfl rfl (by kernel_rfl) (by kernel_rfl) (by kernel_rfl) (by kernel_rfl) (fun _ _ _ _ h => h) (by rfl) HS9.out ?_
    apply Exists.intro
    refine ⟨fun w' hw' => ?_, ?_⟩
    · have q0 := hw'
      go_simp
      first | done | rfl
    try simp only [Act.put, List.setIfInBounds_toArray, List.set_cons_zero, List.set_cons_succ]
    refine UntH.take (i := 10) (some 59) rfl rfl (by kernel_rfl) (by kernel_rfl) (by kernel_rfl) (by kernel_rfl) (fun _ _ _ _ h => h) (by rfl) HS9.out ?_
    apply Exists.intro
    refine ⟨fun w' hw' => ?_, ?_⟩
    · have q0 := hw'
      go_simp
      first | done | rfl
    try simp only [Act.put, List.setIfInBounds_toArray, List.set_cons_zero, List.set_cons_succ]
    refine UntH.take (i := 11) (some 10) rfl rfl (by kernel_rfl) (by kernel_rfl) (by kernel_rfl) (by kernel_rfl) (fun _ _ _ _ h => h) (by rfl) HS9.out ?_
    apply Exists.intro
    refine ⟨fun w' hw' => ?_, ?_⟩
    · have q0 := hw'
      go_simp
      first | done | rfl
    try simp only [Act.put, List.setIfInBounds_toArray, List.set_cons_zero, List.set_cons_succ]
    refine UntH.last (by kernel_rfl) rfl (by kernel_rfl) (by kernel_rfl) (fun K hK => ?_)
    go_simp
    refine hK _ _ ?_
    clear hK K HS0 HS9
    have O9 := hide (own_kept Od.out K9.out (fun k hk hp => by
      have e : g = k := Option.some.inj hk
      exact (HNP.out k (by rw [← e]; exact Nat.le_trans Y2.out.size hgw)).1 hp))
    have Z9 := hide (Zd.out.kept K9.out (fun b off e hne => (HNL.out b off e hne).1))
    have R9 := hide (Sd0.out.ra.kept K9.out (fun k hq hp => HH.out.pq k hp hq))
    have q1 : w9.cell? ⟨w.heap.size, 1, none⟩ = some (.pointer (some ⟨x, 0, none⟩)) := (K9.out.cell (p := ⟨w.heap.size, 1, none⟩) (Nat.lt_of_lt_of_le hw0 Xd.out.size) (HNP.out _ (Nat.le_refl _)).1).trans (HRD.out _ Xd.out).2.1
    have HMD := hide (R9.out.make lv la lc L (by omega) Z9.out)
    go_upto_region 11 with (go_at_call 34; refine HMD.out.mono ?_; rintro e w10 ⟨f10, e10, N10, rfl, m10, Q10, c10, k10, p10, -⟩; obtain ⟨rfl, rfl, sl10, kk10⟩ := mk_both Sd0.out hbd.out M9.out C9.out K9.out P9'.out m10 c10 k10 p10; have K10 := hide k10; have SL10 := hide sl10; have KK10 := hide kk10; clear m10 c10 k10 p10 sl10 kk10)
    clear q1 HMD
    have O10 := hide (own_kept O9.out K10.out (fun k hk hp => by
      have e : g = k := Option.some.inj hk
      exact (HNP.out k (by rw [← e]; exact Nat.le_trans Y2.out.size hgw)).2 hp))
    have Z10 := hide (Z9.out.kept K10.out (fun b off e hne => (HNL.out b off e hne).2))
    have HSM := hide (same_any (some ⟨g, 0, none⟩) la (L.length + 2) lc L L w10 (by omega) (own_at O10.out) Z10.out)
    rw [decide_eq_true rfl] at HSM
    clear M9 C9 K9 P9' O9 Z9 R9 K10 Sd0 Od Zd
    go_upto_region 12 with (go_at_call 16; refine HSM.out.mono ?_; rintro e w11 ⟨rfl, x11⟩; have X11 := hide x11; clear x11)
    have O11 := hide (own_below O10.out X11.out)
    have d0 : w11.cell? ⟨g, L.length, none⟩ = some (.int .i64 (-77)) := by
      rw [World.ownsRow.cellAt O11.out L.length (by omega), zC_get _ (by simp)]
      simp [List.getD_eq_getElem?_getD]
    have d1 : w11.cell? ⟨g, L.length + 1, none⟩ = some (.int .i64 (-77)) := by
      rw [World.ownsRow.cellAt O11.out (L.length + 1) (by omega), zC_get _ (by simp)]
      simp [List.getD_eq_getElem?_getD]
    have hll2 : (L.length : Int) < (L.length : Int) + 2 := by omega
    have hll3 : (L.length : Int) + 1 < (L.length : Int) + 2 := by omega
    go_upto_block 0 with fail
    clear d0 d1 HSM O10 Z10
    have hgd : g < wd.heap.size := HGD.out
    go_wp2
    go_loopw [16] (fun y wr => ∃ i : Nat, i ≤ L.length + 2 ∧ y = .int .i64 i ∧ ∃ xs, Hid (wr.ownsRow g 3 1 (.slice (some ⟨g, 0, none⟩) (L.length + 2) (L.length + 2)) (L.length + 2) xs) ∧ Hid (Kept (fun k => k = g) w11 wr)) (fun y _ => (L.length + 2) - (RowKit.intOf y).toNat)
    case atStart => exact ⟨0, Nat.zero_le _, rfl, _, O11, Kept.refl _ _⟩
    case round =>
      obtain ⟨i, hi, rfl, xs, O12, K12⟩ := hrel
      rename World => w12
      by_cases hlt : i < L.length + 2
      · have hlt' : (i : Int) < (L.length : Int) + 2 := by omega
        have hlt2 : (i : Int) < ((L.length + 2 : Nat) : Int) := by omega
        obtain ⟨o13, k13⟩ := O12.out.stored i (.int .i64 (-5))
        have hx := O12.out.1
        obtain ⟨u, d0⟩ : ∃ u, w12.cell? ⟨g, i, none⟩ = some u := ⟨xs[i]'(by omega), by
          rw [World.ownsRow.cellAt O12.out i (by omega)]
          exact List.getElem?_eq_getElem _⟩
        have f0 := O12.out.frozenAt (g := g) i
        have O13 := hide o13
        have K13 : Hid (Kept (fun k => k = g) w11 (w12.setCell ⟨g, i, none⟩ (.int .i64 (-5)))) := K12.out.trans ((kept_of_grown k13).mono (fun k hk => by injection hk with hk; exact hk.symm))
        clear o13 k13 hx O12 K12
        go_wp2
        go_roundw
        case rel => exact ⟨i + 1, by omega, by go_num, _, O13, K13⟩
        case measure => simp [RowKit.intOf]; omega
      · have hlt' : ¬ (i : Int) < (L.length : Int) + 2 := by omega
        go_wp2
        go_ret
        obtain ⟨N', P', Q', h1, h2, h3⟩ := SL10.out
        have hgn := HNP.out g (Nat.le_trans Y2.out.size hgw)
        have hP : ∀ k, P' k → ¬ k = g := fun k hp e => by
          subst e
          rcases h2 k hp with h5 | h5
          · exact hgn.1 h5
          · omega
        have hQ : ∀ k, Q' k → ¬ k = g := fun k hp e => by
          subst e
          rcases h3 k hp with h5 | h5
          · exact hgn.2 h5
          · omega
        refine ⟨rfl, ⟨N', P', Q', (h1.below X11.out).kept K12.out hP hQ, fun k hp => (h2 k hp).imp id (Nat.le_trans Td.out.size), fun k hp => (h3 k hp).imp id (Nat.le_trans Td.out.size)⟩, ?_⟩
        refine Kept.trans_new (G := fun k => k = g) (((Kept.of_below Td.out).trans KK10.out).trans (Kept.of_below X11.out)) K12.out (fun k hk e => ?_)
        subst e
        have := Nat.le_trans Y2.out.size hgw
        omega
end Go.Proofs.Ytkklphmhbbjmcaa
