/-
  What each kind of a test asks to be right, by its contract. Condition: texts and lists no longer than a process can hold.
-/
import Derived.Test.YthgikaklcglpiaaGreatDoorP23
namespace Go.Proofs.YthgikaklcglpiaaGreatDoor.L5
open Go.RowKit Go.Lib

theorem YesNo.bool {p : Prop} {e : Ending} (h : YesNo p e) : ∃ q : Bool, e = .returned (.bool q) ∧ (q = true ↔ p) := by
  rcases h with ⟨h, rfl⟩ | ⟨h, rfl⟩
  · exact ⟨true, rfl, fun _ => h, fun _ => rfl⟩
  · exact ⟨false, rfl, fun g => (by cases g), fun g => absurd g h⟩
theorem YesNo.of {p : Prop} {q : Bool} (h : q = true ↔ p) : YesNo p (.returned (.bool q)) := by
  cases q with
  | true => exact .inl ⟨h.1 rfl, rfl⟩
  | false => exact .inr ⟨fun g => (by cases h.2 g), rfl⟩
/-- Parts of a test, all else empty. -/
def AD.spO (a : AD) : AD := ⟨0, [], a.sp, a.so, a.sc, [], none, 0, [], none, 0⟩
def AD.nsO (a : AD) : AD := ⟨0, [], [], none, 0, a.ns, a.no, a.nc, [], none, 0⟩
def AD.pcO (a : AD) : AD := ⟨0, [], [], none, 0, [], none, 0, a.D, a.po, a.pc⟩
def AD.npO (a : AD) : AD := ⟨0, a.nm, [], none, 0, [], none, 0, a.D, a.po, a.pc⟩
def AD.nmO (a : AD) : AD := ⟨0, a.nm, [], none, 0, [], none, 0, [], none, 0⟩
theorem AtW.spO {w : World} {a : AD} (h : AtW w a) : AtW w a.spO := ⟨h.sp, .inl rfl, .inl rfl, h.lsp, by simp [AD.spO], by simp [AD.spO], fun d hd => (by cases hd), by simp [AD.spO], fun d hd => (by cases hd)⟩
theorem AtW.nsO {w : World} {a : AD} (h : AtW w a) : AtW w a.nsO := ⟨.inl rfl, h.ns, .inl rfl, by simp [AD.nsO], h.lns, by simp [AD.nsO], fun d hd => (by cases hd), by simp [AD.nsO], h.lst⟩
theorem AtW.pcO {w : World} {a : AD} (h : AtW w a) : AtW w a.pcO := ⟨.inl rfl, .inl rfl, h.pc, by simp [AD.pcO], by simp [AD.pcO], h.lD, h.lpc, by simp [AD.pcO], fun d hd => (by cases hd)⟩
theorem AtW.npO {w : World} {a : AD} (h : AtW w a) : AtW w a.npO := ⟨.inl rfl, .inl rfl, h.pc, by simp [AD.npO], by simp [AD.npO], h.lD, h.lpc, h.lnm, fun d hd => (by cases hd)⟩
theorem AtW.nmO {w : World} {a : AD} (h : AtW w a) : AtW w a.nmO := ⟨.inl rfl, .inl rfl, .inl rfl, by simp [AD.nmO], by simp [AD.nmO], by simp [AD.nmO], fun d hd => (by cases hd), h.lnm, fun d hd => (by cases hd)⟩
def onl (a b : AD) : Bool := sameA a { b with k := a.k }
set_option maxRecDepth 100000 in
set_option maxHeartbeats 2000000 in
theorem rightAddrs_any (P : Nat) (a : AD) (w : World) (hP : TBx w P a) (ha : AtW w a) :
    Calls Tryz.prog 75 #[.pointer (some ⟨P, 0, none⟩)] w fun e w' => YesNo (onl a a.spO = true ∧ Hst a.sp 4294967295) e ∧ Below w.heap.size w w' := by
  have HO := hide (hasOnly_any P a a.spO w hP ha ha.spO)
  have HI := hide (fun V (y : Below w.heap.size w V) => isSet_any a.so a.sc a.sp 4294967295 V ha.lsp (ha.sp.below y))
  have HPC := hide (fun V (y : Below w.heap.size w V) => (TBx.below hP y).five)
  have HQ : Hid (onl a a.spO = sameA a { a.spO with k := a.k }) := rfl
  rw [HQ.out]
  generalize sameA a { a.spO with k := a.k } = q at *
  have HRI : Hid (Hst a.sp 4294967295 ↔ Hst a.sp 4294967295) := Iff.rfl
  obtain ⟨g0, g1, g2, g3, g4⟩ := HPC.out w (Below.refl _ _)
  clear hP ha HQ
  simp only [AD.spO, AD.cells, List.length_nil] at HO
  cases q with
  | false =>
    go_enter Tryz.func75, Tryz.ntmps75
    go_wp2_with (go_at_call 128; refine HO.out.mono ?_; rintro e w1 ⟨rfl, x1⟩; have X1 := hide x1; clear x1)
    go_ret
    exact ⟨.inr ⟨fun h => (by cases h.1), rfl⟩, X1.out⟩
  | true =>
    go_enter Tryz.func75, Tryz.ntmps75
    go_wp2_with (first | (go_at_call 128; refine HO.out.mono ?_; rintro e w1 ⟨rfl, x1⟩; have X1 := hide x1; obtain ⟨h0, h1, h2, h3, h4⟩ := HPC.out _ x1; clear x1) | (go_at_call 129; refine (HI.out _ X1.out).mono ?_; rintro e w2 ⟨hy, x2⟩; obtain ⟨q, rfl, hq⟩ := YesNo.bool hy; have HQ := hide hq; have X2 := hide (bt X1.out x2 (Nat.le_refl _)); clear x2 hy hq))
    go_ret
    exact ⟨YesNo.of (HQ.out.trans ⟨fun h => ⟨by first | rfl | trivial, h⟩, fun h => h.2⟩), X2.out⟩
set_option maxRecDepth 100000 in
set_option maxHeartbeats 2000000 in
theorem rightPorts_any (P : Nat) (a : AD) (w : World) (hP : TBx w P a) (ha : AtW w a) :
    Calls Tryz.prog 77 #[.pointer (some ⟨P, 0, none⟩)] w fun e w' => YesNo (onl a a.spO = true ∧ Hst a.sp 65535) e ∧ Below w.heap.size w w' := by
  have HO := hide (hasOnly_any P a a.spO w hP ha ha.spO)
  have HI := hide (fun V (y : Below w.heap.size w V) => isSet_any a.so a.sc a.sp 65535 V ha.lsp (ha.sp.below y))
  have HPC := hide (fun V (y : Below w.heap.size w V) => (TBx.below hP y).five)
  have HQ : Hid (onl a a.spO = sameA a { a.spO with k := a.k }) := rfl
  rw [HQ.out]
  generalize sameA a { a.spO with k := a.k } = q at *
  have HRI : Hid (Hst a.sp 65535 ↔ Hst a.sp 65535) := Iff.rfl
  obtain ⟨g0, g1, g2, g3, g4⟩ := HPC.out w (Below.refl _ _)
  clear hP ha HQ
  simp only [AD.spO, AD.cells, List.length_nil] at HO
  cases q with
  | false =>
    go_enter Tryz.func77, Tryz.ntmps77
    go_wp2_with (go_at_call 128; refine HO.out.mono ?_; rintro e w1 ⟨rfl, x1⟩; have X1 := hide x1; clear x1)
    go_ret
    exact ⟨.inr ⟨fun h => (by cases h.1), rfl⟩, X1.out⟩
  | true =>
    go_enter Tryz.func77, Tryz.ntmps77
    go_wp2_with (first | (go_at_call 128; refine HO.out.mono ?_; rintro e w1 ⟨rfl, x1⟩; have X1 := hide x1; obtain ⟨h0, h1, h2, h3, h4⟩ := HPC.out _ x1; clear x1) | (go_at_call 129; refine (HI.out _ X1.out).mono ?_; rintro e w2 ⟨hy, x2⟩; obtain ⟨q, rfl, hq⟩ := YesNo.bool hy; have HQ := hide hq; have X2 := hide (bt X1.out x2 (Nat.le_refl _)); clear x2 hy hq))
    go_ret
    exact ⟨YesNo.of (HQ.out.trans ⟨fun h => ⟨by first | rfl | trivial, h⟩, fun h => h.2⟩), X2.out⟩
set_option maxRecDepth 100000 in
set_option maxHeartbeats 2000000 in
theorem rightMethods_any (P : Nat) (a : AD) (w : World) (hP : TBx w P a) (ha : AtW w a) :
    Calls Tryz.prog 79 #[.pointer (some ⟨P, 0, none⟩)] w fun e w' => YesNo (onl a a.nsO = true ∧ AM a.ns) e ∧ Below w.heap.size w w' := by
  have HO := hide (hasOnly_any P a a.nsO w hP ha ha.nsO)
  have HI := hide (fun V (y : Below w.heap.size w V) => methods_any a.no a.nc a.ns V ha.lst (ha.ns.below y))
  have HPC := hide (fun V (y : Below w.heap.size w V) => (TBx.below hP y).five)
  have HQ : Hid (onl a a.nsO = sameA a { a.nsO with k := a.k }) := rfl
  rw [HQ.out]
  generalize sameA a { a.nsO with k := a.k } = q at *
  have HRI : Hid (AM a.ns ↔ AM a.ns) := Iff.rfl
  obtain ⟨g0, g1, g2, g3, g4⟩ := HPC.out w (Below.refl _ _)
  clear hP ha HQ
  simp only [AD.nsO, AD.cells, List.length_nil] at HO
  cases q with
  | false =>
    go_enter Tryz.func79, Tryz.ntmps79
    go_wp2_with (go_at_call 128; refine HO.out.mono ?_; rintro e w1 ⟨rfl, x1⟩; have X1 := hide x1; clear x1)
    go_ret
    exact ⟨.inr ⟨fun h => (by cases h.1), rfl⟩, X1.out⟩
  | true =>
    go_enter Tryz.func79, Tryz.ntmps79
    go_wp2_with (first | (go_at_call 128; refine HO.out.mono ?_; rintro e w1 ⟨rfl, x1⟩; have X1 := hide x1; obtain ⟨h0, h1, h2, h3, h4⟩ := HPC.out _ x1; clear x1) | (go_at_call 131; refine (HI.out _ X1.out).mono ?_; rintro e w2 ⟨hy, x2⟩; obtain ⟨q, rfl, hq⟩ := YesNo.bool hy; have HQ := hide hq; have X2 := hide (bt X1.out x2 (Nat.le_refl _)); clear x2 hy hq))
    go_ret
    exact ⟨YesNo.of (HQ.out.trans ⟨fun h => ⟨by first | rfl | trivial, h⟩, fun h => h.2⟩), X2.out⟩
set_option maxRecDepth 100000 in
set_option maxHeartbeats 2000000 in
theorem rightPath_any (P : Nat) (a : AD) (w : World) (hP : TBx w P a) (ha : AtW w a) :
    Calls Tryz.prog 81 #[.pointer (some ⟨P, 0, none⟩)] w fun e w' => YesNo (onl a a.pcO = true ∧ Rt (a.D.map PD.p)) e ∧ Below w.heap.size w w' := by
  have HO := hide (hasOnly_any P a a.pcO w hP ha ha.pcO)
  have HI := hide (fun V (y : Below w.heap.size w V) => arePieces_any a.po a.pc a.D V ha.lpc (ha.pc.below y))
  have HPC := hide (fun V (y : Below w.heap.size w V) => (TBx.below hP y).five)
  have HQ : Hid (onl a a.pcO = sameA a { a.pcO with k := a.k }) := rfl
  rw [HQ.out]
  generalize sameA a { a.pcO with k := a.k } = q at *
  have HRI : Hid (Rt (a.D.map PD.p) ↔ Rt (a.D.map PD.p)) := Iff.rfl
  obtain ⟨g0, g1, g2, g3, g4⟩ := HPC.out w (Below.refl _ _)
  clear hP ha HQ
  simp only [AD.pcO, AD.cells, List.length_nil] at HO
  cases q with
  | false =>
    go_enter Tryz.func81, Tryz.ntmps81
    go_wp2_with (go_at_call 128; refine HO.out.mono ?_; rintro e w1 ⟨rfl, x1⟩; have X1 := hide x1; clear x1)
    go_ret
    exact ⟨.inr ⟨fun h => (by cases h.1), rfl⟩, X1.out⟩
  | true =>
    go_enter Tryz.func81, Tryz.ntmps81
    go_wp2_with (first | (go_at_call 128; refine HO.out.mono ?_; rintro e w1 ⟨rfl, x1⟩; have X1 := hide x1; obtain ⟨h0, h1, h2, h3, h4⟩ := HPC.out _ x1; clear x1) | (go_at_call 133; refine (HI.out _ X1.out).mono ?_; rintro e w2 ⟨hy, x2⟩; obtain ⟨q, rfl, hq⟩ := YesNo.bool hy; have HQ := hide hq; have X2 := hide (bt X1.out x2 (Nat.le_refl _)); clear x2 hy hq))
    go_ret
    exact ⟨YesNo.of (HQ.out.trans ⟨fun h => ⟨by first | rfl | trivial, h⟩, fun h => h.2⟩), X2.out⟩
def HN (s : By) : Prop := mdB s hnL 32 = true
theorem headerName_yes (s : By) (w : World) (hs : s.length ≤ 140737488351232) : Calls Tryz.prog 135 #[.string ⟨s.toArray⟩] w fun e w' => YesNo (HN s) e ∧ Below w.heap.size w w' :=
  (headerName_any s w hs).mono (fun e w' h => ⟨by rw [h.1]; exact YesNo.of Iff.rfl, h.2⟩)
set_option maxRecDepth 100000 in
set_option maxHeartbeats 2000000 in
theorem rightHas_any (P : Nat) (a : AD) (w : World) (hP : TBx w P a) (ha : AtW w a) :
    Calls Tryz.prog 85 #[.pointer (some ⟨P, 0, none⟩)] w fun e w' => YesNo (onl a a.nmO = true ∧ HN a.nm) e ∧ Below w.heap.size w w' := by
  have HO := hide (hasOnly_any P a a.nmO w hP ha ha.nmO)
  have HI := hide (fun V (y : Below w.heap.size w V) => headerName_yes a.nm V ha.lnm)
  have HPC := hide (fun V (y : Below w.heap.size w V) => (TBx.below hP y).five)
  have HQ : Hid (onl a a.nmO = sameA a { a.nmO with k := a.k }) := rfl
  rw [HQ.out]
  generalize sameA a { a.nmO with k := a.k } = q at *
  have HRI : Hid (HN a.nm ↔ HN a.nm) := Iff.rfl
  obtain ⟨g0, g1, g2, g3, g4⟩ := HPC.out w (Below.refl _ _)
  clear hP ha HQ
  simp only [AD.nmO, AD.cells, List.length_nil] at HO
  cases q with
  | false =>
    go_enter Tryz.func85, Tryz.ntmps85
    go_wp2_with (go_at_call 128; refine HO.out.mono ?_; rintro e w1 ⟨rfl, x1⟩; have X1 := hide x1; clear x1)
    go_ret
    exact ⟨.inr ⟨fun h => (by cases h.1), rfl⟩, X1.out⟩
  | true =>
    go_enter Tryz.func85, Tryz.ntmps85
    go_wp2_with (first | (go_at_call 128; refine HO.out.mono ?_; rintro e w1 ⟨rfl, x1⟩; have X1 := hide x1; obtain ⟨h0, h1, h2, h3, h4⟩ := HPC.out _ x1; clear x1) | (go_at_call 135; refine (HI.out _ X1.out).mono ?_; rintro e w2 ⟨hy, x2⟩; obtain ⟨q, rfl, hq⟩ := YesNo.bool hy; have HQ := hide hq; have X2 := hide (bt X1.out x2 (Nat.le_refl _)); clear x2 hy hq))
    go_ret
    exact ⟨YesNo.of (HQ.out.trans ⟨fun h => ⟨by first | rfl | trivial, h⟩, fun h => h.2⟩), X2.out⟩
end Go.Proofs.YthgikaklcglpiaaGreatDoor.L5
/-
  What a test of a header asks to be right; kind; Right of any test, by their contracts. Condition: texts and lists no longer than a process can hold.
-/
namespace Go.Proofs.YthgikaklcglpiaaGreatDoor.L5
open Go.RowKit Go.Lib

theorem YesNo.yes' {p : Prop} {e : Ending} (h : YesNo p e) (hp : p) : e = .returned (.bool true) := by
  rcases h with h | h
  · exact h.2
  · exact absurd hp h.1
theorem YesNo.no' {p : Prop} {e : Ending} (h : YesNo p e) (hp : ¬ p) : e = .returned (.bool false) := by
  rcases h with h | h
  · exact absurd h.1 hp
  · exact h.2
def RgtH (q : Bool) (a : AD) : Prop := q = true ∧ HN a.nm ∧ Rt (a.D.map PD.p)
set_option maxRecDepth 100000 in
set_option maxHeartbeats 4000000 in
theorem rightHeader_any (P : Nat) (a : AD) (w : World) (hP : TBx w P a) (ha : AtW w a) :
    Calls Tryz.prog 83 #[.pointer (some ⟨P, 0, none⟩)] w fun e w' => YesNo (onl a a.npO = true ∧ HN a.nm ∧ Rt (a.D.map PD.p)) e ∧ Below w.heap.size w w' := by
  have HO := hide (fun V (y : Below w.heap.size w V) => hasOnly_any P a a.npO V (hP.below y) (ha.below y) ((ha.below y).npO))
  have HH := hide (fun V => headerName_any a.nm V ha.lnm)
  have HA := hide (fun V (y : Below w.heap.size w V) => arePieces_any a.po a.pc a.D V ha.lpc (ha.pc.below y))
  have HPC := hide (fun V (y : Below w.heap.size w V) => (TBx.below hP y).five)
  have HQ : Hid (onl a a.npO = sameA a { a.npO with k := a.k }) := rfl
  have HD : Hid (Below w.heap.size w w.drew) := (Below.refl _ _).drew
  rw [HQ.out]
  generalize sameA a { a.npO with k := a.k } = q at *
  have HG : (q = true ∧ HN a.nm ∧ Rt (a.D.map PD.p)) = RgtH q a := rfl
  rw [HG]
  clear HG
  have HNN : Hid (HN a.nm ↔ mdB a.nm hnL 32 = true) := Iff.rfl
  generalize mdB a.nm hnL 32 = m at *
  obtain ⟨g0, g1, g2, g3, g4⟩ := HPC.out w (Below.refl _ _)
  clear hP ha HQ
  simp only [AD.npO, AD.cells, List.length_nil] at HO
  cases q with
  | false =>
    go_enter Tryz.func83, Tryz.ntmps83
    go_upto_region 1 with fail
    refine wp_region_quiet (C := fun w' => Below w.heap.size w w') (by kernel_rfl) (by kernel_rfl) HD.out ?_
    refine QW.out (l := _ :: _) ?_
    iterate 12 (refine QW.take (by rfl) ?_; apply Exists.intro; refine ⟨fun w' hw' => ?_, ?_⟩; (· (obtain ⟨h0, h1, h2, h3, h4⟩ := HPC.out w' hw'; go_simp; first | done | (first | done | rfl))); try simp only [Act.put, List.setIfInBounds_toArray, List.set_cons_zero, List.set_cons_succ])
    iterate 1 (refine QW.take (by rfl) ?_; apply Exists.intro; refine ⟨fun w' hw' => ?_, ?_⟩; (· (obtain ⟨h0, h1, h2, h3, h4⟩ := HPC.out w' hw'; go_simp; (refine (HO.out _ hw').mono ?_; rintro e w2 ⟨rfl, x2⟩; exact ⟨rfl, bt hw' x2 (Nat.le_refl _)⟩))); try simp only [Act.put, List.setIfInBounds_toArray, List.set_cons_zero, List.set_cons_succ])
    iterate 1 (refine QW.take (by rfl) ?_; apply Exists.intro; refine ⟨fun w' hw' => ?_, ?_⟩; (· (obtain ⟨h0, h1, h2, h3, h4⟩ := HPC.out w' hw'; go_simp; first | done | (first | done | rfl))); try simp only [Act.put, List.setIfInBounds_toArray, List.set_cons_zero, List.set_cons_succ])
    iterate 6 (refine QW.skip (by rfl) ?_; try simp only [Act.put, List.setIfInBounds_toArray, List.set_cons_zero, List.set_cons_succ])
    iterate 2 (refine QW.take (by rfl) ?_; apply Exists.intro; refine ⟨fun w' hw' => ?_, ?_⟩; (· (obtain ⟨h0, h1, h2, h3, h4⟩ := HPC.out w' hw'; go_simp; first | done | (first | done | rfl))); try simp only [Act.put, List.setIfInBounds_toArray, List.set_cons_zero, List.set_cons_succ])
    iterate 6 (refine QW.skip (by rfl) ?_; try simp only [Act.put, List.setIfInBounds_toArray, List.set_cons_zero, List.set_cons_succ])
    iterate 2 (refine QW.take (by rfl) ?_; apply Exists.intro; refine ⟨fun w' hw' => ?_, ?_⟩; (· (obtain ⟨h0, h1, h2, h3, h4⟩ := HPC.out w' hw'; go_simp; first | done | (first | done | rfl))); try simp only [Act.put, List.setIfInBounds_toArray, List.set_cons_zero, List.set_cons_succ])
    refine QW.nil ?_
    intro w3 x3
    have X3 := hide x3
    clear x3
    go_wp2
    go_ret
    exact ⟨.inr ⟨fun h => (by cases h.1), rfl⟩, X3.out⟩
  | true =>
    cases m with
    | false =>
      go_enter Tryz.func83, Tryz.ntmps83
      go_upto_region 1 with fail
      refine wp_region_quiet (C := fun w' => Below w.heap.size w w') (by kernel_rfl) (by kernel_rfl) HD.out ?_
      refine QW.out (l := _ :: _) ?_
      iterate 12 (refine QW.take (by rfl) ?_; apply Exists.intro; refine ⟨fun w' hw' => ?_, ?_⟩; (· (obtain ⟨h0, h1, h2, h3, h4⟩ := HPC.out w' hw'; go_simp; first | done | (first | done | rfl))); try simp only [Act.put, List.setIfInBounds_toArray, List.set_cons_zero, List.set_cons_succ])
      iterate 1 (refine QW.take (by rfl) ?_; apply Exists.intro; refine ⟨fun w' hw' => ?_, ?_⟩; (· (obtain ⟨h0, h1, h2, h3, h4⟩ := HPC.out w' hw'; go_simp; (first | (refine (HO.out _ hw').mono ?_; rintro e w2 ⟨rfl, x2⟩; exact ⟨rfl, bt hw' x2 (Nat.le_refl _)⟩) | (refine (HH.out _).mono ?_; rintro e w2 ⟨rfl, x2⟩; exact ⟨rfl, bt hw' x2 (Nat.le_refl _)⟩)))); try simp only [Act.put, List.setIfInBounds_toArray, List.set_cons_zero, List.set_cons_succ])
      iterate 6 (refine QW.take (by rfl) ?_; apply Exists.intro; refine ⟨fun w' hw' => ?_, ?_⟩; (· (obtain ⟨h0, h1, h2, h3, h4⟩ := HPC.out w' hw'; go_simp; first | done | (first | done | rfl))); try simp only [Act.put, List.setIfInBounds_toArray, List.set_cons_zero, List.set_cons_succ])
      iterate 1 (refine QW.take (by rfl) ?_; apply Exists.intro; refine ⟨fun w' hw' => ?_, ?_⟩; (· (obtain ⟨h0, h1, h2, h3, h4⟩ := HPC.out w' hw'; go_simp; (first | (refine (HO.out _ hw').mono ?_; rintro e w2 ⟨rfl, x2⟩; exact ⟨rfl, bt hw' x2 (Nat.le_refl _)⟩) | (refine (HH.out _).mono ?_; rintro e w2 ⟨rfl, x2⟩; exact ⟨rfl, bt hw' x2 (Nat.le_refl _)⟩)))); try simp only [Act.put, List.setIfInBounds_toArray, List.set_cons_zero, List.set_cons_succ])
      iterate 2 (refine QW.take (by rfl) ?_; apply Exists.intro; refine ⟨fun w' hw' => ?_, ?_⟩; (· (obtain ⟨h0, h1, h2, h3, h4⟩ := HPC.out w' hw'; go_simp; first | done | (first | done | rfl))); try simp only [Act.put, List.setIfInBounds_toArray, List.set_cons_zero, List.set_cons_succ])
      iterate 6 (refine QW.skip (by rfl) ?_; try simp only [Act.put, List.setIfInBounds_toArray, List.set_cons_zero, List.set_cons_succ])
      iterate 2 (refine QW.take (by rfl) ?_; apply Exists.intro; refine ⟨fun w' hw' => ?_, ?_⟩; (· (obtain ⟨h0, h1, h2, h3, h4⟩ := HPC.out w' hw'; go_simp; first | done | (first | done | rfl))); try simp only [Act.put, List.setIfInBounds_toArray, List.set_cons_zero, List.set_cons_succ])
      refine QW.nil ?_
      intro w3 x3
      have X3 := hide x3
      clear x3
      go_wp2
      go_ret
      exact ⟨.inr ⟨fun h => (by cases HNN.out.1 h.2.1), rfl⟩, X3.out⟩
    | true =>
      by_cases hr : Rt (a.D.map PD.p)
      · have HR := hide hr
        have HB : Hid (∀ V, Below w.heap.size w V → Calls Tryz.prog 133 #[.slice a.po a.D.length a.pc] V fun e w' => e = .returned (.bool true) ∧ Below V.heap.size V w') := fun V y => (HA.out V y).mono fun e w' h => ⟨YesNo.yes' h.1 HR.out, h.2⟩
        clear hr HA
        go_enter Tryz.func83, Tryz.ntmps83
        go_upto_region 1 with fail
        refine wp_region_quiet (C := fun w' => Below w.heap.size w w') (by kernel_rfl) (by kernel_rfl) HD.out ?_
        refine QW.out (l := _ :: _) ?_
        iterate 12 (refine QW.take (by rfl) ?_; apply Exists.intro; refine ⟨fun w' hw' => ?_, ?_⟩; (· (obtain ⟨h0, h1, h2, h3, h4⟩ := HPC.out w' hw'; go_simp; first | done | (first | done | rfl))); try simp only [Act.put, List.setIfInBounds_toArray, List.set_cons_zero, List.set_cons_succ])
        iterate 1 (refine QW.take (by rfl) ?_; apply Exists.intro; refine ⟨fun w' hw' => ?_, ?_⟩; (· (obtain ⟨h0, h1, h2, h3, h4⟩ := HPC.out w' hw'; go_simp; (first | (refine (HO.out _ hw').mono ?_; rintro e w2 ⟨rfl, x2⟩; exact ⟨rfl, bt hw' x2 (Nat.le_refl _)⟩) | (refine (HH.out _).mono ?_; rintro e w2 ⟨rfl, x2⟩; exact ⟨rfl, bt hw' x2 (Nat.le_refl _)⟩) | (refine (HB.out _ hw').mono ?_; rintro e w2 ⟨rfl, x2⟩; exact ⟨rfl, bt hw' x2 (Nat.le_refl _)⟩)))); try simp only [Act.put, List.setIfInBounds_toArray, List.set_cons_zero, List.set_cons_succ])
        iterate 6 (refine QW.take (by rfl) ?_; apply Exists.intro; refine ⟨fun w' hw' => ?_, ?_⟩; (· (obtain ⟨h0, h1, h2, h3, h4⟩ := HPC.out w' hw'; go_simp; first | done | (first | done | rfl))); try simp only [Act.put, List.setIfInBounds_toArray, List.set_cons_zero, List.set_cons_succ])
        iterate 1 (refine QW.take (by rfl) ?_; apply Exists.intro; refine ⟨fun w' hw' => ?_, ?_⟩; (· (obtain ⟨h0, h1, h2, h3, h4⟩ := HPC.out w' hw'; go_simp; (first | (refine (HO.out _ hw').mono ?_; rintro e w2 ⟨rfl, x2⟩; exact ⟨rfl, bt hw' x2 (Nat.le_refl _)⟩) | (refine (HH.out _).mono ?_; rintro e w2 ⟨rfl, x2⟩; exact ⟨rfl, bt hw' x2 (Nat.le_refl _)⟩) | (refine (HB.out _ hw').mono ?_; rintro e w2 ⟨rfl, x2⟩; exact ⟨rfl, bt hw' x2 (Nat.le_refl _)⟩)))); try simp only [Act.put, List.setIfInBounds_toArray, List.set_cons_zero, List.set_cons_succ])
        iterate 7 (refine QW.take (by rfl) ?_; apply Exists.intro; refine ⟨fun w' hw' => ?_, ?_⟩; (· (obtain ⟨h0, h1, h2, h3, h4⟩ := HPC.out w' hw'; go_simp; first | done | (first | done | rfl))); try simp only [Act.put, List.setIfInBounds_toArray, List.set_cons_zero, List.set_cons_succ])
        iterate 1 (refine QW.take (by rfl) ?_; apply Exists.intro; refine ⟨fun w' hw' => ?_, ?_⟩; (· (obtain ⟨h0, h1, h2, h3, h4⟩ := HPC.out w' hw'; go_simp; (first | (refine (HO.out _ hw').mono ?_; rintro e w2 ⟨rfl, x2⟩; exact ⟨rfl, bt hw' x2 (Nat.le_refl _)⟩) | (refine (HH.out _).mono ?_; rintro e w2 ⟨rfl, x2⟩; exact ⟨rfl, bt hw' x2 (Nat.le_refl _)⟩) | (refine (HB.out _ hw').mono ?_; rintro e w2 ⟨rfl, x2⟩; exact ⟨rfl, bt hw' x2 (Nat.le_refl _)⟩)))); try simp only [Act.put, List.setIfInBounds_toArray, List.set_cons_zero, List.set_cons_succ])
        iterate 2 (refine QW.take (by rfl) ?_; apply Exists.intro; refine ⟨fun w' hw' => ?_, ?_⟩; (· (obtain ⟨h0, h1, h2, h3, h4⟩ := HPC.out w' hw'; go_simp; first | done | (first | done | rfl))); try simp only [Act.put, List.setIfInBounds_toArray, List.set_cons_zero, List.set_cons_succ])
        refine QW.nil ?_
        intro w3 x3
        have X3 := hide x3
        clear x3
        go_wp2
        go_ret
        exact ⟨.inl ⟨⟨rfl, HNN.out.2 (by first | rfl | trivial), HR.out⟩, rfl⟩, X3.out⟩
      · have HR := hide hr
        have HB : Hid (∀ V, Below w.heap.size w V → Calls Tryz.prog 133 #[.slice a.po a.D.length a.pc] V fun e w' => e = .returned (.bool false) ∧ Below V.heap.size V w') := fun V y => (HA.out V y).mono fun e w' h => ⟨YesNo.no' h.1 HR.out, h.2⟩
        clear hr HA
        go_enter Tryz.func83, Tryz.ntmps83
        go_upto_region 1 with fail
        refine wp_region_quiet (C := fun w' => Below w.heap.size w w') (by kernel_rfl) (by kernel_rfl) HD.out ?_
        refine QW.out (l := _ :: _) ?_
        iterate 12 (refine QW.take (by rfl) ?_; apply Exists.intro; refine ⟨fun w' hw' => ?_, ?_⟩; (· (obtain ⟨h0, h1, h2, h3, h4⟩ := HPC.out w' hw'; go_simp; first | done | (first | done | rfl))); try simp only [Act.put, List.setIfInBounds_toArray, List.set_cons_zero, List.set_cons_succ])
        iterate 1 (refine QW.take (by rfl) ?_; apply Exists.intro; refine ⟨fun w' hw' => ?_, ?_⟩; (· (obtain ⟨h0, h1, h2, h3, h4⟩ := HPC.out w' hw'; go_simp; (first | (refine (HO.out _ hw').mono ?_; rintro e w2 ⟨rfl, x2⟩; exact ⟨rfl, bt hw' x2 (Nat.le_refl _)⟩) | (refine (HH.out _).mono ?_; rintro e w2 ⟨rfl, x2⟩; exact ⟨rfl, bt hw' x2 (Nat.le_refl _)⟩) | (refine (HB.out _ hw').mono ?_; rintro e w2 ⟨rfl, x2⟩; exact ⟨rfl, bt hw' x2 (Nat.le_refl _)⟩)))); try simp only [Act.put, List.setIfInBounds_toArray, List.set_cons_zero, List.set_cons_succ])
        iterate 6 (refine QW.take (by rfl) ?_; apply Exists.intro; refine ⟨fun w' hw' => ?_, ?_⟩; (· (obtain ⟨h0, h1, h2, h3, h4⟩ := HPC.out w' hw'; go_simp; first | done | (first | done | rfl))); try simp only [Act.put, List.setIfInBounds_toArray, List.set_cons_zero, List.set_cons_succ])
        iterate 1 (refine QW.take (by rfl) ?_; apply Exists.intro; refine ⟨fun w' hw' => ?_, ?_⟩; (· (obtain ⟨h0, h1, h2, h3, h4⟩ := HPC.out w' hw'; go_simp; (first | (refine (HO.out _ hw').mono ?_; rintro e w2 ⟨rfl, x2⟩; exact ⟨rfl, bt hw' x2 (Nat.le_refl _)⟩) | (refine (HH.out _).mono ?_; rintro e w2 ⟨rfl, x2⟩; exact ⟨rfl, bt hw' x2 (Nat.le_refl _)⟩) | (refine (HB.out _ hw').mono ?_; rintro e w2 ⟨rfl, x2⟩; exact ⟨rfl, bt hw' x2 (Nat.le_refl _)⟩)))); try simp only [Act.put, List.setIfInBounds_toArray, List.set_cons_zero, List.set_cons_succ])
        iterate 7 (refine QW.take (by rfl) ?_; apply Exists.intro; refine ⟨fun w' hw' => ?_, ?_⟩; (· (obtain ⟨h0, h1, h2, h3, h4⟩ := HPC.out w' hw'; go_simp; first | done | (first | done | rfl))); try simp only [Act.put, List.setIfInBounds_toArray, List.set_cons_zero, List.set_cons_succ])
        iterate 1 (refine QW.take (by rfl) ?_; apply Exists.intro; refine ⟨fun w' hw' => ?_, ?_⟩; (· (obtain ⟨h0, h1, h2, h3, h4⟩ := HPC.out w' hw'; go_simp; (first | (refine (HO.out _ hw').mono ?_; rintro e w2 ⟨rfl, x2⟩; exact ⟨rfl, bt hw' x2 (Nat.le_refl _)⟩) | (refine (HH.out _).mono ?_; rintro e w2 ⟨rfl, x2⟩; exact ⟨rfl, bt hw' x2 (Nat.le_refl _)⟩) | (refine (HB.out _ hw').mono ?_; rintro e w2 ⟨rfl, x2⟩; exact ⟨rfl, bt hw' x2 (Nat.le_refl _)⟩)))); try simp only [Act.put, List.setIfInBounds_toArray, List.set_cons_zero, List.set_cons_succ])
        iterate 2 (refine QW.take (by rfl) ?_; apply Exists.intro; refine ⟨fun w' hw' => ?_, ?_⟩; (· (obtain ⟨h0, h1, h2, h3, h4⟩ := HPC.out w' hw'; go_simp; first | done | (first | done | rfl))); try simp only [Act.put, List.setIfInBounds_toArray, List.set_cons_zero, List.set_cons_succ])
        refine QW.nil ?_
        intro w3 x3
        have X3 := hide x3
        clear x3
        go_wp2
        go_ret
        exact ⟨.inr ⟨fun h => HR.out h.2.2, rfl⟩, X3.out⟩
end Go.Proofs.YthgikaklcglpiaaGreatDoor.L5
