/-
  What Least tells is one thing: of the code and of the document. Of no program's walk: the conditions are named.
-/
import Derived.Test.YtdgoilkgplnhfaaGreatB45
import Derived.Test.YtdgoilkgplnhfaaGreatB32
import Derived.Test.YtdgoilkgplnhfaaGreatB44
namespace Go.Proofs.YtdgoilkgplnhfaaGreat
open Go.RowKit Go.Lib
theorem nC_zC (L : List Nat) : nCells L = zC (zN L) := by simp [nCells, zC, zN]
structure LeO (w : World) (base : Nat) (xv ov : Value) (A B : List Int) : Prop where
  ox : w.ownsRow base 3 1 xv A.length (zC A)
  oo : w.ownsRow base 3 1 ov B.length (zC B)
  ap : ∀ b, xv.ownBlock = some b → ¬ ov.ownBlock = some b
theorem LeO.below {w w' : World} {base : Nat} {xv ov : Value} {A B : List Int} (h : LeO w base xv ov A B) (x : Below w.heap.size w w') : LeO w' base xv ov A B := ⟨own_below h.ox x, own_below h.oo x, h.ap⟩
theorem row_mono {w : World} {base base' n : Nat} {e : TypeId} {v : Value} {xs : List Value} (h : w.ownsRow base e 1 v n xs) (hb : base' ≤ base) : w.ownsRow base' e 1 v n xs := by
  rcases h.2 with h2 | ⟨g, c, cur, e1, h3, h4⟩
  · exact ⟨h.1, .inl h2⟩
  · exact ⟨h.1, .inr ⟨g, c, cur, e1, Nat.le_trans hb h3, h4⟩⟩
theorem LeO.mono {w : World} {base base' : Nat} {xv ov : Value} {A B : List Int} (h : LeO w base xv ov A B) (hb : base' ≤ base) : LeO w base' xv ov A B := ⟨row_mono h.ox hb, row_mono h.oo hb, h.ap⟩
theorem own_z {w : World} {base n cap : Nat} {ao : Option Addr} {A : List Int} (h : w.ownsRow base 3 1 (.slice ao n cap) A.length (zC A)) : ZAt w ao A := by
  rcases h.2 with ⟨e, e2⟩ | ⟨g, c', cur, e, hb, hg, hnc, hcm, hcs, htake⟩
  · exact .inl (List.length_eq_zero_iff.1 e2)
  · have e' := e
    injection e' with e1 e2 e3
    subst e1
    refine .inr ⟨g, 0, rfl, lt_of_block hg, fun i hi => ?_⟩
    have hn : n = A.length := e2
    subst hn
    rw [Nat.zero_add, h.cellAt i (by omega)]
    simp [zC, hi]
structure At3 (w : World) (p : Nat) (c : By) (xv ov : Value) : Prop where
  lt : p < w.heap.size
  c0 : w.cell? ⟨p, 0, none⟩ = some (.string ⟨c.toArray⟩)
  c1 : w.cell? ⟨p, 1, none⟩ = some xv
  c2 : w.cell? ⟨p, 2, none⟩ = some ov
theorem At3.below {w w' : World} {p : Nat} {c : By} {xv ov : Value} (h : At3 w p c xv ov) (x : Below w.heap.size w w') : At3 w' p c xv ov :=
  ⟨Nat.lt_of_lt_of_le h.lt x.size, (x.cell (p := ⟨p, 0, none⟩) h.lt).trans h.c0, (x.cell (p := ⟨p, 1, none⟩) h.lt).trans h.c1, (x.cell (p := ⟨p, 2, none⟩) h.lt).trans h.c2⟩
theorem At3.block {w : World} {p : Nat} {c : By} {xv ov : Value} (h : w.heap[p]? = some (.cells #[.string ⟨c.toArray⟩, xv, ov] 24 (0, 0))) : At3 w p c xv ov :=
  ⟨lt_of_block h, by rw [cell_of_row _ _ _ _ _ _ h]; rfl, by rw [cell_of_row _ _ _ _ _ _ h]; rfl, by rw [cell_of_row _ _ _ _ _ _ h]; rfl⟩
theorem At3.new (w : World) (c : By) (xv ov : Value) : At3 (w.alloc (.cells #[.string ⟨c.toArray⟩, xv, ov] 24)) w.heap.size c xv ov := At3.block (heap_alloc_new w _)
theorem LeP.form (bs : By) (NZ OZ : List Int) : ∃ (cs : By) (A B : List Int) (m : Int), A.length ≤ 4294967296 ∧ B.length ≤ 4294967296 ∧ ∀ base e w, LeP bs NZ OZ base e w → ∃ (xa : Option Addr) (xc : Nat) (oa : Option Addr) (oc : Nat), e = .returned (.tuple #[.agg #[.string ⟨cs.toArray⟩, .slice xa A.length xc, .slice oa B.length oc], .int .i64 m]) ∧ LeO w base (.slice xa A.length xc) (.slice oa B.length oc) A B := by
  have hnil : ∀ (w : World) (base : Nat), LeO w base (.slice none 0 0) (.slice none 0 0) [] [] := fun w base => ⟨World.ownsRow_nil w base 3 1, World.ownsRow_nil w base 3 1, fun b hb => by cases hb⟩
  by_cases hZ : MayZ bs NZ OZ
  · obtain ⟨NX, OU, rfl, rfl, hM⟩ := may_of hZ
    by_cases hN : NoForm (dfA bs NX OU)
    · refine ⟨[], [], [], 2, by simp, by simp, fun base e w h => ?_⟩
      rcases h with ⟨hno, _⟩ | ⟨NX', OU', e1, e2, _, _, ⟨bs', xa, xn, xc, oa, on, oc, _, A, B, d⟩ | ⟨rfl, _⟩⟩
      · exact absurd hZ hno
      · obtain rfl := zN_inj e1
        obtain rfl := zN_inj e2
        have h1 := hN _ d.rt.toOk d.lb
        have h2 : 257 ≤ B.length := h1
        have := d.n
        omega
      · exact ⟨none, 0, none, 0, rfl, hnil w base⟩
    · by_cases hD : ∃ (base : Nat) (w : World) (bs' : By) (xv ov : Value) (A B : List Nat), OneD bs NX OU base bs' xv ov A B w
      · obtain ⟨base0, w0, bs0, xv0, ov0, A0, B0, d0⟩ := hD
        have hA : A0.length ≤ 16777216 := d0.may.nxl
        have hB := d0.n
        refine ⟨bs0, zN A0, zN B0, 0, by rw [zN_len]; omega, by rw [zN_len]; omega, fun base e w h => ?_⟩
        rcases h with ⟨hno, _⟩ | ⟨NX', OU', e1, e2, _, _, ⟨bs', xa, xn, xc, oa, on, oc, rfl, A, B, d⟩ | ⟨_, hno⟩⟩
        · exact absurd hZ hno
        · obtain rfl := zN_inj e1
          obtain rfl := zN_inj e2
          obtain ⟨rfl, rfl, rfl⟩ := one_lists d0.may d.may d0.rt d.rt (fun t ht => by rw [d0.lb t ht, d.lb t ht])
          obtain rfl : xn = A0.length := d.rws.shape (j := 0) (by simp) rfl
          obtain rfl : on = B0.length := d.rws.shape (j := 1) (by simp) rfl
          have o0 : w.ownsRow base 3 1 (.slice xa A0.length xc) A0.length (nCells A0) := d.rws.own 0 (by simp)
          have o1 : w.ownsRow base 3 1 (.slice oa B0.length oc) B0.length (nCells B0) := d.rws.own 1 (by simp)
          refine ⟨xa, xc, oa, oc, by rw [zN_len, zN_len]; rfl, ?_⟩
          rw [nC_zC] at o0 o1
          rw [zN_len, zN_len]
          exact ⟨by rw [zN_len]; exact o0, by rw [zN_len]; exact o1, fun b h1 h2 => d.rws.ap 0 (by simp) 1 (by simp) (by decide) b h1 h2⟩
        · obtain rfl := zN_inj e1
          obtain rfl := zN_inj e2
          exact absurd hno hN
      · refine ⟨[], [], [], 0, by simp, by simp, fun base e w h => ?_⟩
        rcases h with ⟨hno, _⟩ | ⟨NX', OU', e1, e2, _, _, ⟨bs', xa, xn, xc, oa, on, oc, _, A, B, d⟩ | ⟨_, hno⟩⟩
        · exact absurd hZ hno
        · obtain rfl := zN_inj e1
          obtain rfl := zN_inj e2
          exact absurd ⟨_, _, _, _, _, _, _, d⟩ hD
        · obtain rfl := zN_inj e1
          obtain rfl := zN_inj e2
          exact absurd hno hN
  · refine ⟨[], [], [], 60, by simp, by simp, fun base e w h => ?_⟩
    rcases h with ⟨_, rfl⟩ | ⟨_, _, _, _, _, h1, _⟩
    · exact ⟨none, 0, none, 0, rfl, hnil w base⟩
    · exact absurd h1 hZ
set_option maxRecDepth 100000 in
set_option maxHeartbeats 4000000 in
theorem keptA_any (bs : By) (gx go : Nat) (na oa : Option Addr) (nc oc : Nat) (NZ OZ : List Int) (w : World) (hnl : NZ.length ≤ 17592186043904) (hol : OZ.length ≤ 17592186043904) (h1 : LnA w gx NZ) (h2 : LnA w go OZ) (h3 : ZAt w na NZ) (h4 : ZAt w oa OZ) :
    Calls Tryz.prog 15 #[auV bs (some ⟨gx, 0, none⟩) NZ.length (NZ.length + 3) (some ⟨go, 0, none⟩) OZ.length (OZ.length + 3), auV bs na NZ.length nc oa OZ.length oc] w fun e w' => e = .returned (.bool true) ∧ Below w.heap.size w w' := by
  obtain ⟨w2, hw2⟩ : ∃ w2, w2 = (w.alloc (.cells #[.string ⟨bs.toArray⟩, .slice (some ⟨gx, 0, none⟩) NZ.length (NZ.length + 3), .slice (some ⟨go, 0, none⟩) OZ.length (OZ.length + 3)] 24)).alloc (.cells #[.string ⟨bs.toArray⟩, .slice na NZ.length nc, .slice oa OZ.length oc] 24) := ⟨_, rfl⟩
  obtain ⟨X2, B1, B2, hs2⟩ := two_alloc' w #[.string ⟨bs.toArray⟩, .slice (some ⟨gx, 0, none⟩) NZ.length (NZ.length + 3), .slice (some ⟨go, 0, none⟩) OZ.length (OZ.length + 3)] #[.string ⟨bs.toArray⟩, .slice na NZ.length nc, .slice oa OZ.length oc] 24 24
  rw [← hw2] at X2 B1 B2 hs2
  have HC : Hid (∀ V, Below w2.heap.size w2 V → (V.cell? ⟨w.heap.size, 0, none⟩ = some (.string ⟨bs.toArray⟩) ∧ V.cell? ⟨w.heap.size, 1, none⟩ = some (.slice (some ⟨gx, 0, none⟩) NZ.length (NZ.length + 3)) ∧ V.cell? ⟨w.heap.size, 2, none⟩ = some (.slice (some ⟨go, 0, none⟩) OZ.length (OZ.length + 3))) ∧ (V.cell? ⟨w.heap.size + 1, 0, none⟩ = some (.string ⟨bs.toArray⟩) ∧ V.cell? ⟨w.heap.size + 1, 1, none⟩ = some (.slice na NZ.length nc) ∧ V.cell? ⟨w.heap.size + 1, 2, none⟩ = some (.slice oa OZ.length oc)) ∧ LnA V gx NZ ∧ LnA V go OZ ∧ ZAt V na NZ ∧ ZAt V oa OZ) := fun V x => by
    have Bv := (x.block _ (lt_of_block B1)).trans B1
    have Bw := (x.block _ (lt_of_block B2)).trans B2
    have y := bt X2 x (Nat.le_refl _)
    exact ⟨⟨by rw [cell_of_row _ _ _ _ _ _ Bv]; rfl, by rw [cell_of_row _ _ _ _ _ _ Bv]; rfl, by rw [cell_of_row _ _ _ _ _ _ Bv]; rfl⟩, ⟨by rw [cell_of_row _ _ _ _ _ _ Bw]; rfl, by rw [cell_of_row _ _ _ _ _ _ Bw]; rfl, by rw [cell_of_row _ _ _ _ _ _ Bw]; rfl⟩, h1.below y, h2.below y, h3.below y, h4.below y⟩
  have HX2 := hide X2
  obtain ⟨⟨c0, c1, c2⟩, ⟨d0, d1, d2⟩, l1, l2, z1, z2⟩ := HC.out w2 (Below.refl _ _)
  have HSM := hide (sameZ_any bs bs (some ⟨gx, 0, none⟩) (some ⟨go, 0, none⟩) na oa (NZ.length + 3) (OZ.length + 3) nc oc NZ OZ NZ OZ w2 (by omega) (by omega) l1.z l2.z z1 z2)
  unfold auV at HSM ⊢
  clear X2 B1 B2 hs2 h1 h2 h3 h4 l1 l2 z1 z2
  go_enter Tryz.func15, Tryz.ntmps15
  go_upto_region 1 with fail
  rw [← hw2]
  clear hw2
  go_upto_region 2 with (go_at_call 14; refine HSM.out.mono ?_; rintro e w3 ⟨⟨b, rfl, hb⟩, x3⟩; obtain rfl : b = true := (hb.2 ⟨rfl, rfl, rfl⟩); have X3 := hide x3; clear x3 hb)
  clear HSM c0 c1 c2 d0 d1 d2
  obtain ⟨⟨c0, c1, c2⟩, -⟩ := HC.out w3 X3.out
  have f1 : IntKind.i64.wrap ((NZ.length : Int) + 3) = (NZ.length : Int) + 3 := by rw [show (NZ.length : Int) + 3 = ((NZ.length + 3 : Nat) : Int) by omega]; exact w64_n _ (by omega)
  have f2 : IntKind.i64.wrap ((OZ.length : Int) + 3) = (OZ.length : Int) + 3 := by rw [show (OZ.length : Int) + 3 = ((OZ.length + 3 : Nat) : Int) by omega]; exact w64_n _ (by omega)
  have f3 : (0 : Int) ≤ (NZ.length : Int) + 3 := by omega
  have f4 : (0 : Int) ≤ (OZ.length : Int) + 3 := by omega
  have f5 : ((NZ.length : Int) + 3).toNat = NZ.length + 3 := by omega
  have f6 : ((OZ.length : Int) + 3).toNat = OZ.length + 3 := by omega
  go_upto_region 4 with fail
  clear f1 f2 f3 f4 f5 f6 c0 c1 c2
  go_wp2
  go_loopg [5, 8] 4 (fun g y x wr => ∃ k : Nat, x = .int .i64 (k : Nat) ∧ y = .bool true ∧ k ≤ 3 ∧ Hid (Below w2.heap.size w2 wr) ∧ 3 - k < g)
  case atStart => exact ⟨0, rfl, rfl, by omega, X3, by omega⟩
  case round =>
    obtain ⟨k, rfl, rfl, hk1, X, hg⟩ := hrel
    have HG := hide hg
    clear hg X3
    obtain ⟨⟨c0, c1, c2⟩, -, l1, l2, -⟩ := HC.out wr X.out
    by_cases hk : k < 3
    · as_aux_lemma =>
      have hk' : (k : Int) < 3 := by omega
      have s0 := l1.more hk
      have s1 := l2.more hk
      have f2 : IntKind.i64.wrap ((NZ.length : Int) + (k : Int)) = (NZ.length : Int) + (k : Int) := by rw [show (NZ.length : Int) + (k : Int) = ((NZ.length + k : Nat) : Int) by omega]; exact w64_n _ (by omega)
      have f3 : (NZ.length : Int) + (k : Int) < (NZ.length : Int) + 3 := by omega
      have f4 : (0 : Int) ≤ (NZ.length : Int) + (k : Int) := by omega
      have f5 : ((NZ.length : Int) + (k : Int)).toNat = NZ.length + k := by omega
      have e2 : IntKind.i64.wrap ((OZ.length : Int) + (k : Int)) = (OZ.length : Int) + (k : Int) := by rw [show (OZ.length : Int) + (k : Int) = ((OZ.length + k : Nat) : Int) by omega]; exact w64_n _ (by omega)
      have e3 : (OZ.length : Int) + (k : Int) < (OZ.length : Int) + 3 := by omega
      have e4 : (0 : Int) ≤ (OZ.length : Int) + (k : Int) := by omega
      have e5 : ((OZ.length : Int) + (k : Int)).toNat = OZ.length + k := by omega
      clear l1 l2
      go_wp2
      go_roundg (3 - (k + 1) + 1)
      case measure => have := HG.out; omega
      case rel => exact ⟨k + 1, by first | rfl | go_num | (congr 1; omega), by first | rfl | simp, by omega, X, by omega⟩
    · as_aux_lemma =>
      have hk' : ¬ (k : Int) < 3 := by omega
      have Xf := hide (bt HX2.out X.out (Nat.le_refl _))
      clear l1 l2
      go_wp2
      go_ret
      exact ⟨rfl, Xf.out⟩
set_option maxRecDepth 100000 in
set_option maxHeartbeats 4000000 in
theorem beyond_any (bs : By) (xA oA : Option Addr) (xAl xAc oAl oAc : Nat) (cs : By) (xB oB : Option Addr) (xBl xBc oBl oBc : Nat) (more : Int) (w : World) :
    Calls Tryz.prog 9 #[auV bs xA xAl xAc oA oAl oAc, auV cs xB xBl xBc oB oBl oBc, .int .i64 more] w fun e w' => (∃ b : Bool, e = .returned (.bool b)) ∧ Below w.heap.size w w' := by
  have X2 : Below w.heap.size w ((w.alloc (.cells #[.string ⟨bs.toArray⟩, .slice xA xAl xAc, .slice oA oAl oAc] 24)).alloc (.cells #[.string ⟨cs.toArray⟩, .slice xB xBl xBc, .slice oB oBl oBc] 24)) := al (al (Below.refl _ _) _) _
  have HX2 := hide X2
  clear X2
  unfold auV
  go_enter Tryz.func9, Tryz.ntmps9
  go_wp2
  go_ret
  exact ⟨⟨_, rfl⟩, HX2.out⟩
set_option maxRecDepth 100000 in
set_option maxHeartbeats 8000000 in
theorem takesA_any (bs : By) (xa oa : Option Addr) (xn xc on oc bk : Nat) (w0 w : World) (lv : Value) (L : List Value) (hl : L.length ≤ 1000) (hF : Fr w0 [(lv, 22, L), (.slice (some ⟨bk, 0, none⟩) 2 2, 37, [lv, .slice none 0 0])] w) :
    Calls Tryz.prog 18 #[.pointer (some ⟨bk, 0, none⟩), auV bs xa xn xc oa on oc] w fun e w' => e = .returned (.tuple #[]) ∧ ∃ lv', Fr w0 [(lv', 22, L ++ [.slice xa xn xc, .slice oa on oc]), (.slice (some ⟨bk, 0, none⟩) 2 2, 37, [lv', .slice none 0 0])] w' := by
  obtain ⟨i22, hi22, hz220, hz221, hz222⟩ := info_parts Tryz.info22n
  have F1 := hide (hF.box 24 [.string ⟨bs.toArray⟩, .slice xa xn xc, .slice oa on oc] (by simp [maxLen]))
  obtain ⟨w1, hw1⟩ : ∃ w1, w1 = w.alloc (.cells #[.string ⟨bs.toArray⟩, .slice xa xn xc, .slice oa on oc] 24) := ⟨_, rfl⟩
  obtain ⟨bx, hbx⟩ : ∃ bx, bx = w.heap.size := ⟨_, rfl⟩
  have F1 : Hid (Fr w0 [(.slice (some ⟨bx, 0, none⟩) 3 3, 24, [.string ⟨bs.toArray⟩, .slice xa xn xc, .slice oa on oc]), (lv, 22, L), (.slice (some ⟨bk, 0, none⟩) 2 2, 37, [lv, .slice none 0 0])] w1) := by rw [hw1, hbx]; exact F1.out
  clear hF
  unfold auV
  go_enter Tryz.func18, Tryz.ntmps18
  go_upto_region 1 with fail
  rw [← hw1, ← hbx]
  clear hw1 hbx
  have FD : Hid (Fr w0 [(.slice (some ⟨bx, 0, none⟩) 3 3, 24, [.string ⟨bs.toArray⟩, .slice xa xn xc, .slice oa on oc]), (lv, 22, L), (.slice (some ⟨bk, 0, none⟩) 2 2, 37, [lv, .slice none 0 0])] w1.drew) := F1.out.below (Below.refl _ _).drew
  obtain ⟨S, HSE⟩ : ∃ S : World → Prop, Hid (∀ V, S V ↔ ∃ lv' L', Fr w0 [(.slice (some ⟨bx, 0, none⟩) 3 3, 24, [.string ⟨bs.toArray⟩, .slice xa xn xc, .slice oa on oc]), (lv', 22, L'), (.slice (some ⟨bk, 0, none⟩) 2 2, 37, [lv, .slice none 0 0])] V) := ⟨_, fun _ => Iff.rfl⟩
  have HRD : Hid (∀ V, S V → V.cell? ⟨bk, 0, none⟩ = some lv ∧ V.cell? ⟨bx, 1, none⟩ = some (.slice xa xn xc) ∧ V.cell? ⟨bx, 2, none⟩ = some (.slice oa on oc)) := fun V hV => by
    obtain ⟨lv', L', F⟩ := (HSE.out V).1 hV
    obtain ⟨k0, -⟩ := F.slot (i := 2) (by simp) rfl (k := 0) (by simp)
    obtain ⟨k1, -⟩ := F.slot (i := 0) (by simp) rfl (k := 1) (by simp)
    obtain ⟨k2, -⟩ := F.slot (i := 0) (by simp) rfl (k := 2) (by simp)
    simp only [List.getElem_cons_succ, List.getElem_cons_zero] at k0 k1 k2
    exact ⟨k0, k1, k2⟩
  have HS0 : Hid (S w1.drew) := (HSE.out _).2 ⟨_, _, FD.out⟩
  refine wp_unt (S := S) 11 (by kernel_rfl) ?_
  clear F1
  generalize w1.drew = wd at *
  refine UntH.take (i := 0) (some 4) rfl rfl (by kernel_rfl) (by kernel_rfl) (by kernel_rfl) (by kernel_rfl) (fun _ _ _ _ h => h) (by rfl) HS0.out ?_
  apply Exists.intro
  refine ⟨fun w' hw' => ?_, ?_⟩
  · obtain ⟨q0, q1, q2⟩ := HRD.out w' hw'
    go_simp
    first | done | rfl
  try simp only [Act.put, List.setIfInBounds_toArray, List.set_cons_zero, List.set_cons_succ]
  refine UntH.take (i := 1) (some 5) rfl rfl (by kernel_rfl) (by kernel_rfl) (by kernel_rfl) (by kernel_rfl) (fun _ _ _ _ h => h) (by rfl) HS0.out ?_
  apply Exists.intro
  refine ⟨fun w' hw' => ?_, ?_⟩
  · obtain ⟨q0, q1, q2⟩ := HRD.out w' hw'
    go_simp
    first | done | rfl
  try simp only [Act.put, List.setIfInBounds_toArray, List.set_cons_zero, List.set_cons_succ]
  refine UntH.take (i := 2) (some 6) rfl rfl (by kernel_rfl) (by kernel_rfl) (by kernel_rfl) (by kernel_rfl) (fun _ _ _ _ h => h) (by rfl) HS0.out ?_
  apply Exists.intro
  refine ⟨fun w' hw' => ?_, ?_⟩
  · obtain ⟨q0, q1, q2⟩ := HRD.out w' hw'
    go_simp
    first | done | rfl
  try simp only [Act.put, List.setIfInBounds_toArray, List.set_cons_zero, List.set_cons_succ]
  refine UntH.take (i := 3) (some 7) rfl rfl (by kernel_rfl) (by kernel_rfl) (by kernel_rfl) (by kernel_rfl) (fun _ _ _ _ h => h) (by rfl) HS0.out ?_
  apply Exists.intro
  refine ⟨fun w' hw' => ?_, ?_⟩
  · obtain ⟨q0, q1, q2⟩ := HRD.out w' hw'
    go_simp
    first | done | rfl
  try simp only [Act.put, List.setIfInBounds_toArray, List.set_cons_zero, List.set_cons_succ]
  refine UntH.take (i := 4) (some 8) rfl rfl (by kernel_rfl) (by kernel_rfl) (by kernel_rfl) (by kernel_rfl) (fun _ _ _ _ h => h) (by rfl) HS0.out ?_
  apply Exists.intro
  refine ⟨fun w' hw' => ?_, ?_⟩
  · obtain ⟨q0, q1, q2⟩ := HRD.out w' hw'
    go_simp
    first | done | rfl
  try simp only [Act.put, List.setIfInBounds_toArray, List.set_cons_zero, List.set_cons_succ]
  refine UntH.take (i := 5) (some 9) rfl rfl (by kernel_rfl) (by kernel_rfl) (by kernel_rfl) (by kernel_rfl) (fun _ _ _ _ h => h) (by rfl) HS0.out ?_
  apply Exists.intro
  refine ⟨fun w' hw' => ?_, ?_⟩
  · obtain ⟨q0, q1, q2⟩ := HRD.out w' hw'
    go_simp
    first | done | rfl
  try simp only [Act.put, List.setIfInBounds_toArray, List.set_cons_zero, List.set_cons_succ]
  refine UntH.take (i := 6) (some 10) rfl rfl (by kernel_rfl) (by kernel_rfl) (by kernel_rfl) (by kernel_rfl) (fun _ _ _ _ h => h) (by rfl) HS0.out ?_
  apply Exists.intro
  refine ⟨fun w' hw' => ?_, ?_⟩
  · obtain ⟨q0, q1, q2⟩ := HRD.out w' hw'
    go_simp
    first | done | rfl
  try simp only [Act.put, List.setIfInBounds_toArray, List.set_cons_zero, List.set_cons_succ]
  have y1 : Below wd.heap.size wd (wd.alloc (.cells #[(.slice xa xn xc)] 22)) := al (Below.refl _ _) _
  have HS1 : Hid (S (wd.alloc (.cells #[(.slice xa xn xc)] 22))) := (HSE.out _).2 ⟨_, _, FD.out.below y1⟩
  have HOW : Hid ((wd.alloc (.cells #[(.slice xa xn xc)] 22)).ownsRow w0.heap.size 22 1 lv L.length L) := own_below (FD.out.own (i := 1) (by simp) rfl) y1
  have HNW : Hid (∀ (j : Nat) (z : Value), [((.slice xa xn xc) : Value)][j]? = some z → (wd.alloc (.cells #[(.slice xa xn xc)] 22)).cell? ((⟨wd.heap.size, 0, none⟩ : Addr).add j) = some z) := fun j z hu => by
    have hB := heap_alloc_new wd (.cells #[(.slice xa xn xc)] 22)
    rw [addr_add', cell_of_row _ _ _ _ _ _ hB]
    simpa using hu
  have HSW : Hid (w0.heap.size ≤ (wd.alloc (.cells #[(.slice xa xn xc)] 22)).heap.size) := Nat.le_trans FD.out.bel.size y1.size
  have HRO : Hid (∀ (g1 cap1 : Nat) (w7 : World), w7.ownsRow w0.heap.size 22 1 (.slice (some ⟨g1, 0, none⟩) (L.length + 1) cap1) (L.length + 1) (L ++ [(.slice xa xn xc)]) → (wd.alloc (.cells #[(.slice xa xn xc)] 22)).grownBy w7 lv.ownBlock → (lv.ownBlock = some g1 ∨ g1 = (wd.alloc (.cells #[(.slice xa xn xc)] 22)).heap.size) → Fr w0 [(.slice (some ⟨bx, 0, none⟩) 3 3, 24, [.string ⟨bs.toArray⟩, .slice xa xn xc, .slice oa on oc]), ((.slice (some ⟨g1, 0, none⟩) (L.length + 1) cap1), 22, L ++ [(.slice xa xn xc)]), (.slice (some ⟨bk, 0, none⟩) 2 2, 37, [lv, .slice none 0 0])] w7) := fun g1 cap1 w7 h1 h2 h3 => FD.out.lies y1 (i := 1) (by simp) rfl h1 h2 h3
  refine UntH.step (i := 7) (by kernel_rfl) rfl (fun K hK => ?_)
  go_simp
  refine hK _ _ HS1.out ?_
  clear hK K
  refine UntH.step (i := 8) (by kernel_rfl) rfl (fun K hK => ?_)
  refine step_append_lies _ (by rfl) (.tmp 8) (.tmp 11) 34 (by rfl) w0.heap.size 22 i22 (.slice none 0 0) 1 24 Tryz.underlying34 hi22 hz220 hz221 hz222 rfl (by decide) _ L.length L (by rfl) HOW.out ⟨wd.heap.size, 0, none⟩ 1 1 [(.slice xa xn xc)] (by rfl) (by rfl) HNW.out (by simp [Value.oneCell']) (by decide) (by unfold maxLen; omega) (by omega) HSW.out _ rfl ?_
  intro g1 cap1 wb1 h1 h2 h3 h4
  have F7 := hide (HRO.out g1 cap1 wb1 h1 h2 h3)
  have HS6 : Hid (S wb1) := (HSE.out _).2 ⟨_, _, F7.out⟩
  refine hK _ _ HS6.out ?_
  clear hK K h1 h2 h3 h4
  refine UntH.take (i := 9) (some 13) rfl rfl (by kernel_rfl) (by kernel_rfl) (by kernel_rfl) (by kernel_rfl) (fun _ _ _ _ h => h) (by rfl) HS6.out ?_
  apply Exists.intro
  refine ⟨fun w' hw' => ?_, ?_⟩
  · obtain ⟨q0, q1, q2⟩ := HRD.out w' hw'
    go_simp
    first | done | rfl
  try simp only [Act.put, List.setIfInBounds_toArray]
  refine UntH.take (i := 10) (some 14) rfl rfl (by kernel_rfl) (by kernel_rfl) (by kernel_rfl) (by kernel_rfl) (fun _ _ _ _ h => h) (by rfl) HS6.out ?_
  apply Exists.intro
  refine ⟨fun w' hw' => ?_, ?_⟩
  · obtain ⟨q0, q1, q2⟩ := HRD.out w' hw'
    go_simp
    first | done | rfl
  try simp only [Act.put]
  obtain ⟨z0, z1⟩ := F7.out.slot (i := 2) (by simp) rfl (k := 0) (by simp)
  simp only [List.getElem_cons_zero] at z0
  have F8 : Hid (Fr w0 [(.slice (some ⟨bx, 0, none⟩) 3 3, 24, [.string ⟨bs.toArray⟩, .slice xa xn xc, .slice oa on oc]), ((.slice (some ⟨g1, 0, none⟩) (L.length + 1) cap1), 22, L ++ [(.slice xa xn xc)]), (.slice (some ⟨bk, 0, none⟩) 2 2, 37, [(.slice (some ⟨g1, 0, none⟩) (L.length + 1) cap1), .slice none 0 0])] (wb1.setCell ⟨bk, 0, none⟩ (.slice (some ⟨g1, 0, none⟩) (L.length + 1) cap1))) := F7.out.store (i := 2) (by simp) rfl 0 _
  refine UntH.last (by kernel_rfl) rfl (by kernel_rfl) (by kernel_rfl) (fun K hK => ?_)
  go_simp
  refine hK _ _ ?_
  clear hK K z0 z1 F7 HOW HNW HSW HRO HS1 HS0 HS6 HRD HSE FD y1
  obtain ⟨wc1, hwc⟩ : ∃ wc1, wc1 = wb1.setCell ⟨bk, 0, none⟩ (.slice (some ⟨g1, 0, none⟩) (L.length + 1) cap1) := ⟨_, rfl⟩
  rw [← hwc] at F8 ⊢
  clear hwc
  obtain ⟨lv1, hlv1⟩ : ∃ lv1 : Value, lv1 = .slice (some ⟨g1, 0, none⟩) (L.length + 1) cap1 := ⟨_, rfl⟩
  obtain ⟨L1, hL1⟩ : ∃ L1 : List Value, L1 = L ++ [.slice xa xn xc] := ⟨_, rfl⟩
  have hl1 : L1.length ≤ 1001 := by rw [hL1]; simp; omega
  have F2 := F8
  rw [← hlv1, ← hL1] at F2
  have HL1 := hide hL1
  clear F8 hlv1 hL1
  go_upto_region 2 with fail
  have FD : Hid (Fr w0 [(.slice (some ⟨bx, 0, none⟩) 3 3, 24, [.string ⟨bs.toArray⟩, .slice xa xn xc, .slice oa on oc]), (lv1, 22, L1), (.slice (some ⟨bk, 0, none⟩) 2 2, 37, [lv1, .slice none 0 0])] wc1.drew) := F2.out.below (Below.refl _ _).drew
  obtain ⟨S, HSE⟩ : ∃ S : World → Prop, Hid (∀ V, S V ↔ ∃ lv' L', Fr w0 [(.slice (some ⟨bx, 0, none⟩) 3 3, 24, [.string ⟨bs.toArray⟩, .slice xa xn xc, .slice oa on oc]), (lv', 22, L'), (.slice (some ⟨bk, 0, none⟩) 2 2, 37, [lv1, .slice none 0 0])] V) := ⟨_, fun _ => Iff.rfl⟩
  have HRD : Hid (∀ V, S V → V.cell? ⟨bk, 0, none⟩ = some lv1 ∧ V.cell? ⟨bx, 1, none⟩ = some (.slice xa xn xc) ∧ V.cell? ⟨bx, 2, none⟩ = some (.slice oa on oc)) := fun V hV => by
    obtain ⟨lv', L', F⟩ := (HSE.out V).1 hV
    obtain ⟨k0, -⟩ := F.slot (i := 2) (by simp) rfl (k := 0) (by simp)
    obtain ⟨k1, -⟩ := F.slot (i := 0) (by simp) rfl (k := 1) (by simp)
    obtain ⟨k2, -⟩ := F.slot (i := 0) (by simp) rfl (k := 2) (by simp)
    simp only [List.getElem_cons_succ, List.getElem_cons_zero] at k0 k1 k2
    exact ⟨k0, k1, k2⟩
  have HS0 : Hid (S wc1.drew) := (HSE.out _).2 ⟨_, _, FD.out⟩
  refine wp_unt (S := S) 11 (by kernel_rfl) ?_
  clear F2
  generalize wc1.drew = wd at *
  refine UntH.take (i := 0) (some 15) rfl rfl (by kernel_rfl) (by kernel_rfl) (by kernel_rfl) (by kernel_rfl) (fun _ _ _ _ h => h) (by rfl) HS0.out ?_
  apply Exists.intro
  refine ⟨fun w' hw' => ?_, ?_⟩
  · obtain ⟨q0, q1, q2⟩ := HRD.out w' hw'
    go_simp
    first | done | rfl
  try simp only [Act.put, List.setIfInBounds_toArray, List.set_cons_zero, List.set_cons_succ]
  refine UntH.take (i := 1) (some 16) rfl rfl (by kernel_rfl) (by kernel_rfl) (by kernel_rfl) (by kernel_rfl) (fun _ _ _ _ h => h) (by rfl) HS0.out ?_
  apply Exists.intro
  refine ⟨fun w' hw' => ?_, ?_⟩
  · obtain ⟨q0, q1, q2⟩ := HRD.out w' hw'
    go_simp
    first | done | rfl
  try simp only [Act.put, List.setIfInBounds_toArray, List.set_cons_zero, List.set_cons_succ]
  refine UntH.take (i := 2) (some 17) rfl rfl (by kernel_rfl) (by kernel_rfl) (by kernel_rfl) (by kernel_rfl) (fun _ _ _ _ h => h) (by rfl) HS0.out ?_
  apply Exists.intro
  refine ⟨fun w' hw' => ?_, ?_⟩
  · obtain ⟨q0, q1, q2⟩ := HRD.out w' hw'
    go_simp
    first | done | rfl
  try simp only [Act.put, List.setIfInBounds_toArray, List.set_cons_zero, List.set_cons_succ]
  refine UntH.take (i := 3) (some 18) rfl rfl (by kernel_rfl) (by kernel_rfl) (by kernel_rfl) (by kernel_rfl) (fun _ _ _ _ h => h) (by rfl) HS0.out ?_
  apply Exists.intro
  refine ⟨fun w' hw' => ?_, ?_⟩
  · obtain ⟨q0, q1, q2⟩ := HRD.out w' hw'
    go_simp
    first | done | rfl
  try simp only [Act.put, List.setIfInBounds_toArray, List.set_cons_zero, List.set_cons_succ]
  refine UntH.take (i := 4) (some 19) rfl rfl (by kernel_rfl) (by kernel_rfl) (by kernel_rfl) (by kernel_rfl) (fun _ _ _ _ h => h) (by rfl) HS0.out ?_
  apply Exists.intro
  refine ⟨fun w' hw' => ?_, ?_⟩
  · obtain ⟨q0, q1, q2⟩ := HRD.out w' hw'
    go_simp
    first | done | rfl
  try simp only [Act.put, List.setIfInBounds_toArray, List.set_cons_zero, List.set_cons_succ]
  refine UntH.take (i := 5) (some 20) rfl rfl (by kernel_rfl) (by kernel_rfl) (by kernel_rfl) (by kernel_rfl) (fun _ _ _ _ h => h) (by rfl) HS0.out ?_
  apply Exists.intro
  refine ⟨fun w' hw' => ?_, ?_⟩
  · obtain ⟨q0, q1, q2⟩ := HRD.out w' hw'
    go_simp
    first | done | rfl
  try simp only [Act.put, List.setIfInBounds_toArray, List.set_cons_zero, List.set_cons_succ]
  refine UntH.take (i := 6) (some 21) rfl rfl (by kernel_rfl) (by kernel_rfl) (by kernel_rfl) (by kernel_rfl) (fun _ _ _ _ h => h) (by rfl) HS0.out ?_
  apply Exists.intro
  refine ⟨fun w' hw' => ?_, ?_⟩
  · obtain ⟨q0, q1, q2⟩ := HRD.out w' hw'
    go_simp
    first | done | rfl
  try simp only [Act.put, List.setIfInBounds_toArray, List.set_cons_zero, List.set_cons_succ]
  have y1 : Below wd.heap.size wd (wd.alloc (.cells #[(.slice oa on oc)] 22)) := al (Below.refl _ _) _
  have HS1 : Hid (S (wd.alloc (.cells #[(.slice oa on oc)] 22))) := (HSE.out _).2 ⟨_, _, FD.out.below y1⟩
  have HOW : Hid ((wd.alloc (.cells #[(.slice oa on oc)] 22)).ownsRow w0.heap.size 22 1 lv1 L1.length L1) := own_below (FD.out.own (i := 1) (by simp) rfl) y1
  have HNW : Hid (∀ (j : Nat) (z : Value), [((.slice oa on oc) : Value)][j]? = some z → (wd.alloc (.cells #[(.slice oa on oc)] 22)).cell? ((⟨wd.heap.size, 0, none⟩ : Addr).add j) = some z) := fun j z hu => by
    have hB := heap_alloc_new wd (.cells #[(.slice oa on oc)] 22)
    rw [addr_add', cell_of_row _ _ _ _ _ _ hB]
    simpa using hu
  have HSW : Hid (w0.heap.size ≤ (wd.alloc (.cells #[(.slice oa on oc)] 22)).heap.size) := Nat.le_trans FD.out.bel.size y1.size
  have HRO : Hid (∀ (g2 cap2 : Nat) (w7 : World), w7.ownsRow w0.heap.size 22 1 (.slice (some ⟨g2, 0, none⟩) (L1.length + 1) cap2) (L1.length + 1) (L1 ++ [(.slice oa on oc)]) → (wd.alloc (.cells #[(.slice oa on oc)] 22)).grownBy w7 lv1.ownBlock → (lv1.ownBlock = some g2 ∨ g2 = (wd.alloc (.cells #[(.slice oa on oc)] 22)).heap.size) → Fr w0 [(.slice (some ⟨bx, 0, none⟩) 3 3, 24, [.string ⟨bs.toArray⟩, .slice xa xn xc, .slice oa on oc]), ((.slice (some ⟨g2, 0, none⟩) (L1.length + 1) cap2), 22, L1 ++ [(.slice oa on oc)]), (.slice (some ⟨bk, 0, none⟩) 2 2, 37, [lv1, .slice none 0 0])] w7) := fun g2 cap2 w7 h1 h2 h3 => FD.out.lies y1 (i := 1) (by simp) rfl h1 h2 h3
  refine UntH.step (i := 7) (by kernel_rfl) rfl (fun K hK => ?_)
  go_simp
  refine hK _ _ HS1.out ?_
  clear hK K
  refine UntH.step (i := 8) (by kernel_rfl) rfl (fun K hK => ?_)
  refine step_append_lies _ (by rfl) (.tmp 19) (.tmp 22) 34 (by rfl) w0.heap.size 22 i22 (.slice none 0 0) 1 24 Tryz.underlying34 hi22 hz220 hz221 hz222 rfl (by decide) _ L1.length L1 (by rfl) HOW.out ⟨wd.heap.size, 0, none⟩ 1 1 [(.slice oa on oc)] (by rfl) (by rfl) HNW.out (by simp [Value.oneCell']) (by decide) (by unfold maxLen; omega) (by omega) HSW.out _ rfl ?_
  intro g2 cap2 wb2 h1 h2 h3 h4
  have F7 := hide (HRO.out g2 cap2 wb2 h1 h2 h3)
  have HS6 : Hid (S wb2) := (HSE.out _).2 ⟨_, _, F7.out⟩
  refine hK _ _ HS6.out ?_
  clear hK K h1 h2 h3 h4
  refine UntH.take (i := 9) (some 24) rfl rfl (by kernel_rfl) (by kernel_rfl) (by kernel_rfl) (by kernel_rfl) (fun _ _ _ _ h => h) (by rfl) HS6.out ?_
  apply Exists.intro
  refine ⟨fun w' hw' => ?_, ?_⟩
  · obtain ⟨q0, q1, q2⟩ := HRD.out w' hw'
    go_simp
    first | done | rfl
  try simp only [Act.put, List.setIfInBounds_toArray]
  refine UntH.take (i := 10) (some 25) rfl rfl (by kernel_rfl) (by kernel_rfl) (by kernel_rfl) (by kernel_rfl) (fun _ _ _ _ h => h) (by rfl) HS6.out ?_
  apply Exists.intro
  refine ⟨fun w' hw' => ?_, ?_⟩
  · obtain ⟨q0, q1, q2⟩ := HRD.out w' hw'
    go_simp
    first | done | rfl
  try simp only [Act.put]
  obtain ⟨z0, z1⟩ := F7.out.slot (i := 2) (by simp) rfl (k := 0) (by simp)
  simp only [List.getElem_cons_zero] at z0
  have F8 : Hid (Fr w0 [(.slice (some ⟨bx, 0, none⟩) 3 3, 24, [.string ⟨bs.toArray⟩, .slice xa xn xc, .slice oa on oc]), ((.slice (some ⟨g2, 0, none⟩) (L1.length + 1) cap2), 22, L1 ++ [(.slice oa on oc)]), (.slice (some ⟨bk, 0, none⟩) 2 2, 37, [(.slice (some ⟨g2, 0, none⟩) (L1.length + 1) cap2), .slice none 0 0])] (wb2.setCell ⟨bk, 0, none⟩ (.slice (some ⟨g2, 0, none⟩) (L1.length + 1) cap2))) := F7.out.store (i := 2) (by simp) rfl 0 _
  refine UntH.last (by kernel_rfl) rfl (by kernel_rfl) (by kernel_rfl) (fun K hK => ?_)
  go_simp
  refine hK _ _ ?_
  clear hK K z0 z1 F7 HOW HNW HSW HRO HS1 HS0 HS6 HRD HSE FD y1
  obtain ⟨wc2, hwc⟩ : ∃ wc2, wc2 = wb2.setCell ⟨bk, 0, none⟩ (.slice (some ⟨g2, 0, none⟩) (L1.length + 1) cap2) := ⟨_, rfl⟩
  rw [← hwc] at F8 ⊢
  clear hwc
  have FE : Hid (∃ lv', Fr w0 [(lv', 22, L ++ [.slice xa xn xc, .slice oa on oc]), (.slice (some ⟨bk, 0, none⟩) 2 2, 37, [lv', .slice none 0 0])] wc2) := ⟨_, by
    have := F8.out.tail
    rw [HL1.out, List.append_assoc] at this
    exact this⟩
  clear F8
  go_wp2
  refine bodyPost_end (v := .tuple #[]) (results_none rfl _ _ _) rfl ?_
  exact ⟨rfl, FE.out⟩
theorem parseA (w : World) : Calls Tryz.prog 22 #[.string ⟨#[97]⟩] w fun e w' => (∃ ao cap D, e = .returned (.tuple #[.slice ao D.length cap, .int .i64 0, .int .i64 0]) ∧ D.map PD.p = [pA] ∧ PcAt w' ao D) ∧ Below w.heap.size w w' := by
  refine (parse_any [97] w (by simp)).mono ?_
  rintro e w' ⟨hP, x⟩
  rw [parA] at hP
  obtain ⟨v, D, rfl, ho, hD⟩ := hP
  obtain ⟨ao, cap, rfl, _, hat⟩ := ho.at
  exact ⟨⟨ao, cap, D, rfl, hD, hat⟩, x⟩
set_option maxRecDepth 100000 in
set_option maxHeartbeats 4000000 in
theorem known_any (w : World) : Calls Tryz.prog 10 #[] w fun e w' => e = .returned (.bool true) ∧ Below w.heap.size w w' := by
  have HP := hide (parseA w)
  have HI : Hid ((Tryz.prog.info? 24).map (·.size) = some 3) := by unfold Hid; kernel_rfl
  go_enter Tryz.func10, Tryz.ntmps10
  go_upto_region 2 with (go_at_call 22; refine HP.out.mono ?_; rintro e w1 ⟨⟨ao, cap, D, rfl, hD, hat⟩, x1⟩; have HD := hide hD; have HAT := hide hat; have X1 := hide x1; clear hD hat x1)
  have HOF : Hid (Calls Tryz.prog 20 #[.slice ao D.length cap] w1 fun e w' => (∃ bs xa oa xc oc NX OU, e = .returned (.tuple #[.agg #[.string ⟨bs.toArray⟩, .slice xa NX.length xc, .slice oa OU.length oc], .int .i64 0]) ∧ OfR w' w1.heap.size [pA] bs xa oa xc oc NX OU) ∧ Below w1.heap.size w1 w') := by
    refine (of_any ao cap D w1 (fun d hd => ?_) HAT.out).mono ?_
    · have : d.p ∈ D.map PD.p := List.mem_map_of_mem hd
      rw [HD.out] at this
      rw [List.mem_singleton.1 this]
      simp [pA]
    · rintro e w' ⟨h, x⟩
      rw [HD.out] at h
      refine ⟨?_, x⟩
      rcases h.yes rtA with ⟨hm, _⟩ | h
      · exact (few_not_many fewA hm).elim
      · exact h
  go_upto_region 3 with (go_at_call 20; refine HOF.out.mono ?_; rintro e w2 ⟨⟨bs, xa, oa, xc, oc, NX, OU, rfl, hof⟩, x2⟩; have HF := hide hof; have X2 := hide (bt X1.out x2 (Nat.le_refl _)); clear hof x2)
  obtain ⟨hO, hX⟩ := sizeA HF.out.at'.may HF.out.at'.rt HF.out.lab
  have X3 : Below w2.heap.size w2 (w2.alloc (.cells #[.string ⟨bs.toArray⟩, .slice xa NX.length xc, .slice oa OU.length oc] 24)) := al (Below.refl _ _) _
  have B3 := heap_alloc_new w2 (.cells #[.string ⟨bs.toArray⟩, .slice xa NX.length xc, .slice oa OU.length oc] 24)
  obtain ⟨w3, hw3⟩ : ∃ w3, w3 = w2.alloc (.cells #[.string ⟨bs.toArray⟩, .slice xa NX.length xc, .slice oa OU.length oc] 24) := ⟨_, rfl⟩
  obtain ⟨pb, hpb⟩ : ∃ pb, pb = w2.heap.size := ⟨_, rfl⟩
  rw [← hw3] at X3 B3 ⊢
  rw [← hpb] at B3 ⊢
  have HX3 := hide (bt X2.out X3 (Nat.le_refl _))
  have HC : Hid (∀ V, Below w3.heap.size w3 V → V.cell? ⟨pb, 0, none⟩ = some (.string ⟨bs.toArray⟩) ∧ V.cell? ⟨pb, 1, none⟩ = some (.slice xa 6 xc) ∧ V.cell? ⟨pb, 2, none⟩ = some (.slice oa 3 oc)) := fun V x => by
    have Bv := (x.block _ (lt_of_block B3)).trans B3
    rw [hX, hO] at Bv
    exact ⟨by rw [cell_of_row _ _ _ _ _ _ Bv]; rfl, by rw [cell_of_row _ _ _ _ _ _ Bv]; rfl, by rw [cell_of_row _ _ _ _ _ _ Bv]; rfl⟩
  have l1 : (dfA bs NX OU).lab 0 (ntL [97]) = 1 := by rw [HF.out.lab]; exact (by kernel_rfl : (if mtF [pA] [97] ([pA] : List Pc).length then (1 : Int) else 0) = 1)
  have l2 : (dfA bs NX OU).lab 0 (ntL [97, 98]) = 0 := by rw [HF.out.lab]; exact (by kernel_rfl : (if mtF [pA] [97, 98] ([pA] : List Pc).length then (1 : Int) else 0) = 0)
  have HR1 : Hid (∀ V, Below w3.heap.size w3 V → Calls Tryz.prog 27 #[.agg #[.string ⟨bs.toArray⟩, .slice xa 6 xc, .slice oa 3 oc], .string ⟨#[97]⟩] V fun e w' => e = .returned (.tuple #[.int .i64 1, .int .i64 0]) ∧ Below V.heap.size V w') := fun V x => by
    have := (HF.out.at'.below (bt X3 x (Nat.le_refl _))).run xc oc [97] (by simp)
    rw [l1, hO, hX] at this
    exact this
  have HR2 : Hid (∀ V, Below w3.heap.size w3 V → Calls Tryz.prog 27 #[.agg #[.string ⟨bs.toArray⟩, .slice xa 6 xc, .slice oa 3 oc], .string ⟨#[97, 98]⟩] V fun e w' => e = .returned (.tuple #[.int .i64 0, .int .i64 0]) ∧ Below V.heap.size V w') := fun V x => by
    have := (HF.out.at'.below (bt X3 x (Nat.le_refl _))).run xc oc [97, 98] (by simp)
    rw [l2, hO, hX] at this
    exact this
  have HSH : Hid (∀ V, Below w3.heap.size w3 V → Calls Tryz.prog 29 #[.agg #[.string ⟨bs.toArray⟩, .slice xa 6 xc, .slice oa 3 oc], .int .i64 1] V fun e w' => e = .returned (.tuple #[.string ⟨#[97]⟩, .bool true, .int .i64 0]) ∧ Below V.heap.size V w') := fun V x => by
    have := (HF.out.at'.below (bt X3 x (Nat.le_refl _))).short xc oc 1
    rw [hO, hX] at this
    refine this.mono ?_
    rintro e w' ⟨⟨s, is, rfl, hS⟩, x'⟩
    refine ⟨?_, x'⟩
    rcases hS with ⟨rfl, st, t, _, k2, _, k4, rfl⟩ | ⟨_, _, k⟩
    · rw [leastA HF.out.lab k2 k4]
    · refine absurd l1 (k _ (HF.out.at'.rt.toOk.run HF.out.at'.rt.n0 (ntL_txt _)))
  have HRR : Hid (∀ V, Below w3.heap.size w3 V → Calls Tryz.prog 16 #[.agg #[.string ⟨bs.toArray⟩, .slice xa 6 xc, .slice oa 3 oc]] V fun e w' => e = .returned (.bool true) ∧ Below V.heap.size V w') := fun V x => by
    have := (HF.out.at'.below (bt X3 x (Nat.le_refl _))).right xc oc
    rw [hO, hX] at this
    exact this
  rw [hX, hO]
  obtain ⟨c0, c1, c2⟩ := HC.out w3 (Below.refl _ _)
  clear hw3 hpb X3 B3 HF hO hX l1 l2 HOF HP HAT HD
  go_upto_region 4 with (go_at_call 27; refine (HR1.out _ (Below.refl _ _)).mono ?_; rintro e w4 ⟨rfl, x4⟩; have X4 := hide x4; clear x4)
  obtain ⟨c0, c1, c2⟩ := HC.out w4 X4.out
  clear HR1
  go_upto_region 5 with (go_at_call 27; refine (HR2.out _ X4.out).mono ?_; rintro e w5 ⟨rfl, x5⟩; have X5 := hide (bt X4.out x5 (Nat.le_refl _)); clear x5)
  obtain ⟨c0, c1, c2⟩ := HC.out w5 X5.out
  go_upto_region 6 with (go_at_call 29; refine (HSH.out _ X5.out).mono ?_; rintro e w6 ⟨rfl, x6⟩; have X6 := hide (bt X5.out x6 (Nat.le_refl _)); clear x6)
  obtain ⟨c0, c1, c2⟩ := HC.out w6 X6.out
  go_wp2_with (go_at_call 16; refine (HRR.out _ X6.out).mono ?_; rintro e w7 ⟨rfl, x7⟩; have X7 := hide (bt X6.out x7 (Nat.le_refl _)); clear x7)
  go_ret
  exact ⟨rfl, bt HX3.out X7.out (Nat.le_refl _)⟩
end Go.Proofs.YtdgoilkgplnhfaaGreat
