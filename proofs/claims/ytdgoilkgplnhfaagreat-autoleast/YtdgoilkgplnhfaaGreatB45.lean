/-
  The document's Same, of any two automata of raw numbers: true just if they read alike. Condition: lists no longer than a process can hold.
-/
import Derived.Test.YtdgoilkgplnhfaaGreatB44
import Derived.BigQuiet
import Derived.Test.YtdgoilkgplnhfaaGreatB33
import Derived.Test.YtdgoilkgplnhfaaGreatB31
import Derived.Test.YtdgoilkgplnhfaaGreatB24
import Derived.Laws.CopyOwn
namespace Go.Proofs.YtdgoilkgplnhfaaGreat
open Go.RowKit Go.Lib
theorem eq_upto {A B : List Int} (hl : A.length = B.length) (h : ∀ i (ha : i < A.length) (hb : i < B.length), A[i] = B[i]) : A = B := List.ext_getElem hl h
set_option maxRecDepth 100000 in
set_option maxHeartbeats 4000000 in
theorem sameZ_any (bs cs : By) (xA oA xB oB : Option Addr) (xAc oAc xBc oBc : Nat) (NA OA NB OB : List Int) (w : World) (hn : NA.length ≤ 140737488351232) (ho : OA.length ≤ 140737488351232) (h1 : ZAt w xA NA) (h2 : ZAt w oA OA) (h3 : ZAt w xB NB) (h4 : ZAt w oB OB) :
    Calls Tryz.prog 14 #[auV bs xA NA.length xAc oA OA.length oAc, auV cs xB NB.length xBc oB OB.length oBc] w fun e w' => TellsB (bs = cs ∧ NA = NB ∧ OA = OB) e ∧ Below w.heap.size w w' := by
  obtain ⟨w2, hw2⟩ : ∃ w2, w2 = (w.alloc (.cells #[.string ⟨bs.toArray⟩, .slice xA NA.length xAc, .slice oA OA.length oAc] 24)).alloc (.cells #[.string ⟨cs.toArray⟩, .slice xB NB.length xBc, .slice oB OB.length oBc] 24) := ⟨_, rfl⟩
  obtain ⟨X2, B1, B2, hs2⟩ := two_alloc' w #[.string ⟨bs.toArray⟩, .slice xA NA.length xAc, .slice oA OA.length oAc] #[.string ⟨cs.toArray⟩, .slice xB NB.length xBc, .slice oB OB.length oBc] 24 24
  rw [← hw2] at X2 B1 B2 hs2
  have HC : Hid (∀ V, Below w2.heap.size w2 V → (V.cell? ⟨w.heap.size, 0, none⟩ = some (.string ⟨bs.toArray⟩) ∧ V.cell? ⟨w.heap.size, 1, none⟩ = some (.slice xA NA.length xAc) ∧ V.cell? ⟨w.heap.size, 2, none⟩ = some (.slice oA OA.length oAc)) ∧ (V.cell? ⟨w.heap.size + 1, 0, none⟩ = some (.string ⟨cs.toArray⟩) ∧ V.cell? ⟨w.heap.size + 1, 1, none⟩ = some (.slice xB NB.length xBc) ∧ V.cell? ⟨w.heap.size + 1, 2, none⟩ = some (.slice oB OB.length oBc)) ∧ ZAt V xA NA ∧ ZAt V oA OA ∧ ZAt V xB NB ∧ ZAt V oB OB) := fun V x => by
    have Bv := (x.block _ (lt_of_block B1)).trans B1
    have Bw := (x.block _ (lt_of_block B2)).trans B2
    have y := bt X2 x (Nat.le_refl _)
    exact ⟨⟨by rw [cell_of_row _ _ _ _ _ _ Bv]; rfl, by rw [cell_of_row _ _ _ _ _ _ Bv]; rfl, by rw [cell_of_row _ _ _ _ _ _ Bv]; rfl⟩, ⟨by rw [cell_of_row _ _ _ _ _ _ Bw]; rfl, by rw [cell_of_row _ _ _ _ _ _ Bw]; rfl, by rw [cell_of_row _ _ _ _ _ _ Bw]; rfl⟩, h1.below y, h2.below y, h3.below y, h4.below y⟩
  have HX2 := hide X2
  have NOT : Hid (∀ P : Prop, ¬ P → TellsB P (.returned (.bool false))) := fun P h => ⟨false, rfl, by simp [h]⟩
  obtain ⟨⟨c0, c1, c2⟩, ⟨d0, d1, d2⟩, _⟩ := HC.out w2 (Below.refl _ _)
  clear X2 B1 B2 hs2 h1 h2 h3 h4
  unfold auV
  go_enter Tryz.func14, Tryz.ntmps14
  go_upto_region 1 with fail
  rw [← hw2]
  clear hw2
  by_cases hb : bs = cs
  case neg =>
    have hsn : ¬ (⟨bs.toArray⟩ : ByteArray) = ⟨cs.toArray⟩ := fun e => hb (by injection e with e; simpa using congrArg Array.toList e)
    have HN : Hid (¬ (bs = cs ∧ NA = NB ∧ OA = OB)) := fun h => hb h.1
    go_wp2
    go_ret
    exact ⟨NOT.out _ HN.out, HX2.out⟩
  subst hb
  by_cases hl1 : NA.length = NB.length
  case neg =>
    have b1 : ((NA.length : Int) != (NB.length : Int)) = true := by simp; omega
    have HN : Hid (¬ (bs = bs ∧ NA = NB ∧ OA = OB)) := fun h => hl1 (by rw [h.2.1])
    go_wp2
    go_ret
    exact ⟨NOT.out _ (fun h => HN.out ⟨trivial, h⟩), HX2.out⟩
  by_cases hl2 : OA.length = OB.length
  case neg =>
    have b1 : ((NA.length : Int) != (NB.length : Int)) = false := by simp; omega
    have b2 : ((OA.length : Int) != (OB.length : Int)) = true := by simp; omega
    have HN : Hid (¬ (bs = bs ∧ NA = NB ∧ OA = OB)) := fun h => hl2 (by rw [h.2.2])
    go_wp2
    go_ret
    exact ⟨NOT.out _ (fun h => HN.out ⟨trivial, h⟩), HX2.out⟩
  have HL1 := hide hl1
  have HL2 := hide hl2
  rw [← hl1] at d1
  rw [← hl2] at d2
  have HC2 : Hid (∀ V, Below w2.heap.size w2 V → (V.cell? ⟨w.heap.size, 0, none⟩ = some (.string ⟨bs.toArray⟩) ∧ V.cell? ⟨w.heap.size, 1, none⟩ = some (.slice xA NA.length xAc) ∧ V.cell? ⟨w.heap.size, 2, none⟩ = some (.slice oA OA.length oAc)) ∧ (V.cell? ⟨w.heap.size + 1, 0, none⟩ = some (.string ⟨bs.toArray⟩) ∧ V.cell? ⟨w.heap.size + 1, 1, none⟩ = some (.slice xB NA.length xBc) ∧ V.cell? ⟨w.heap.size + 1, 2, none⟩ = some (.slice oB OA.length oBc)) ∧ ZAt V xA NA ∧ ZAt V oA OA ∧ ZAt V xB NB ∧ ZAt V oB OB) := fun V x => by
    have := HC.out V x
    rw [← HL1.out, ← HL2.out] at this
    exact this
  clear hl1 hl2 HC
  go_wp2
  go_loopg [5] (NA.length + 1) (fun g x wr => ∃ k : Nat, x = .int .i64 (k : Nat) ∧ k ≤ NA.length ∧ Hid (Below w2.heap.size w2 wr) ∧ Hid (∀ i (ha : i < NA.length) (hb : i < NB.length), i < k → NA[i] = NB[i]) ∧ NA.length - k < g)
  case atStart => exact ⟨0, rfl, by omega, Below.refl _ _, fun i _ _ h => by omega, by omega⟩
  case round =>
    obtain ⟨k, rfl, hk1, X, HE, hg⟩ := hrel
    have HG := hide hg
    have XV := hide (bt HX2.out X.out (Nat.le_refl _))
    clear hg c0 c1 c2 d0 d1 d2
    obtain ⟨⟨c0, c1, c2⟩, ⟨d0, d1, d2⟩, kxA, koA, kxB, koB⟩ := HC2.out wr X.out
    by_cases hk : k < NA.length
    · have hk' : (k : Int) < (NA.length : Int) := by omega
      have hkB : k < NB.length := by have := HL1.out; omega
      obtain ⟨pa, oa, rfl, ca⟩ := kxA.get hk
      obtain ⟨pb, ob, rfl, cb⟩ := kxB.get hkB
      have HS : Hid (NA[k] = NB[k] → ∀ i (ha : i < NA.length) (hb : i < NB.length), i < k + 1 → NA[i] = NB[i]) := fun h i ha hb hik => by
        rcases Nat.lt_or_ge i k with h1 | h1
        · exact HE.out i ha hb h1
        · obtain rfl : i = k := by omega
          exact h
      have HN : Hid (¬ NA[k] = NB[k] → ¬ (bs = bs ∧ NA = NB ∧ OA = OB)) := fun h h' => h (by have := h'.2.1; subst this; rfl)
      clear kxA kxB koA koB HE
      generalize NA[k] = x at *
      generalize NB[k] = y at *
      by_cases hxy : x = y
      · subst hxy
        have bxy : (x != x) = false := by simp
        have HS2 := hide (HS.out rfl)
        clear HS HN
        go_wp2
        go_quiet (fail)
        have X6 : Hid (Below w2.heap.size w2 (wr.drewN nq)) := X.out.trans ⟨rfl, rfl, rfl, Nat.le_refl _, fun _ _ => rfl⟩
        go_wp2
        go_roundg (NA.length - (k + 1) + 1)
        case measure => have := HG.out; omega
        case rel => exact ⟨k + 1, by first | rfl | go_num | (congr 1; omega), by omega, X6, HS2, by omega⟩
      · have bxy : (x != y) = true := by simpa using hxy
        have HN2 := hide (HN.out hxy)
        clear HS HN
        go_wp2
        go_quiet (fail)
        have X6 : Hid (Below w.heap.size w (wr.drewN nq)) := XV.out.trans ⟨rfl, rfl, rfl, Nat.le_refl _, fun _ _ => rfl⟩
        go_wp2
        go_ret
        exact ⟨NOT.out _ (fun h => HN2.out ⟨trivial, h⟩), X6.out⟩
    · have hk' : ¬ (k : Int) < (NA.length : Int) := by omega
      have HEN : Hid (NA = NB) := eq_upto HL1.out (fun i ha hb => HE.out i ha hb (by omega))
      clear kxA kxB koA koB HE
      go_wp2
      go_loopg [6] (OA.length + 1) (fun g x wr => ∃ k : Nat, x = .int .i64 (k : Nat) ∧ k ≤ OA.length ∧ Hid (Below w2.heap.size w2 wr) ∧ Hid (∀ i (ha : i < OA.length) (hb : i < OB.length), i < k → OA[i] = OB[i]) ∧ OA.length - k < g)
      case atStart => exact ⟨0, rfl, by omega, X, fun i _ _ h => by omega, by omega⟩
      case round =>
        clear hk' hk hk1
        obtain ⟨k, rfl, hk1, X', HE, hg⟩ := hrel
        have HG' := hide hg
        have XV' := hide (bt HX2.out X'.out (Nat.le_refl _))
        clear hg c0 c1 c2 d0 d1 d2 XV
        obtain ⟨⟨c0, c1, c2⟩, ⟨d0, d1, d2⟩, kxA, koA, kxB, koB⟩ := HC2.out _ X'.out
        by_cases hk : k < OA.length
        · have hk' : (k : Int) < (OA.length : Int) := by omega
          have hkB : k < OB.length := by have := HL2.out; omega
          obtain ⟨pa, oa, rfl, ca⟩ := koA.get hk
          obtain ⟨pb, ob, rfl, cb⟩ := koB.get hkB
          have HS : Hid (OA[k] = OB[k] → ∀ i (ha : i < OA.length) (hb : i < OB.length), i < k + 1 → OA[i] = OB[i]) := fun h i ha hb hik => by
            rcases Nat.lt_or_ge i k with h1 | h1
            · exact HE.out i ha hb h1
            · obtain rfl : i = k := by omega
              exact h
          have HN : Hid (¬ OA[k] = OB[k] → ¬ (bs = bs ∧ NA = NB ∧ OA = OB)) := fun h h' => h (by have := h'.2.2; subst this; rfl)
          clear kxA kxB koA koB HE
          generalize OA[k] = x at *
          generalize OB[k] = y at *
          by_cases hxy : x = y
          · subst hxy
            have bxy : (x != x) = false := by simp
            have HS2 := hide (HS.out rfl)
            clear HS HN
            go_wp2
            go_quiet (fail)
            have X6 : Hid (Below w2.heap.size w2 (World.drewN _ nq)) := X'.out.trans ⟨rfl, rfl, rfl, Nat.le_refl _, fun _ _ => rfl⟩
            go_wp2
            go_roundg (OA.length - (k + 1) + 1)
            case measure => have := HG'.out; omega
            case rel => exact ⟨k + 1, by first | rfl | go_num | (congr 1; omega), by omega, X6, HS2, by omega⟩
          · have bxy : (x != y) = true := by simpa using hxy
            have HN2 := hide (HN.out hxy)
            clear HS HN
            go_wp2
            go_quiet (fail)
            have X6 : Hid (Below w.heap.size w (World.drewN _ nq)) := XV'.out.trans ⟨rfl, rfl, rfl, Nat.le_refl _, fun _ _ => rfl⟩
            go_wp2
            go_ret
            exact ⟨NOT.out _ (fun h => HN2.out ⟨trivial, h⟩), X6.out⟩
        · have hk' : ¬ (k : Int) < (OA.length : Int) := by omega
          have HT : Hid (bs = bs ∧ NA = NB ∧ OA = OB) := ⟨rfl, HEN.out, eq_upto HL2.out (fun i ha hb => HE.out i ha hb (by omega))⟩
          clear kxA kxB koA koB HE
          go_wp2
          go_ret
          exact ⟨⟨true, rfl, ⟨fun _ => HT.out.2, fun _ => rfl⟩⟩, XV'.out⟩
theorem NAt.raw {w : World} {ao : Option Addr} {L : List Nat} (h : NAt w ao L) : ZAt w ao (zN L) := by
  rcases h with h | ⟨b, off, h1, h2, h3⟩
  · exact .inl (by rw [h]; rfl)
  · refine .inr ⟨b, off, h1, h2, fun i hi => ?_⟩
    have := h3 i (by rw [zN_len] at hi; exact hi)
    rw [this]
    simp [zN]
theorem LeP.flat {bs : By} {NZ OZ : List Int} {base : Nat} {e : Ending} {w : World} (h : LeP bs NZ OZ base e w) (hl : OZ.length ≤ 256) : ∃ (bs' : By) (xa : Option Addr) (xc : Nat) (oa : Option Addr) (oc : Nat) (NZ' OZ' : List Int) (m : Int), e = .returned (.tuple #[auV bs' xa NZ'.length xc oa OZ'.length oc, .int .i64 m]) ∧ ZAt w xa NZ' ∧ ZAt w oa OZ' ∧ (((bs = bs' ∧ NZ = NZ' ∧ OZ = OZ') ∧ m = 0) ↔ RightZ bs NZ OZ) := by
  rcases h with ⟨hno, rfl⟩ | ⟨NX, OU, rfl, rfl, hM, _, ⟨bs', xa, xn, xc, oa, on, oc, rfl, NX', OU', d⟩ | ⟨rfl, hno⟩⟩
  · refine ⟨[], none, 0, none, 0, [], [], 60, rfl, .inl rfl, .inl rfl, ⟨fun h => by have := h.2; omega, fun h => ?_⟩⟩
    obtain ⟨_, A, B, e1, e2, h1, h2⟩ := h
    exact absurd (by rw [e1, e2]; exact may_back h1 h2) hno
  · obtain rfl : xn = NX'.length := d.rws.shape (j := 0) (by simp) rfl
    obtain rfl : on = OU'.length := d.rws.shape (j := 1) (by simp) rfl
    have KX' : NAt w xa NX' := (d.rws.own 0 (by simp)).nat
    have KO' : NAt w oa OU' := (d.rws.own 1 (by simp)).nat
    refine ⟨bs', xa, xc, oa, oc, zN NX', zN OU', 0, by rw [zN_len, zN_len], KX'.raw, KO'.raw, ?_⟩
    rw [right_iff6 hM (by rw [zN_len] at hl; exact hl) d]
    exact ⟨fun ⟨⟨h1, h2, h3⟩, _⟩ => ⟨h1, zN_inj h2, zN_inj h3⟩, fun ⟨h1, h2, h3⟩ => ⟨⟨h1, by rw [h2], by rw [h3]⟩, rfl⟩⟩
  · exact ⟨[], none, 0, none, 0, [], [], 2, rfl, .inl rfl, .inl rfl, ⟨fun h => by have := h.2; omega, fun h => absurd h (not_right_of hno)⟩⟩
set_option maxRecDepth 100000 in
set_option maxHeartbeats 4000000 in
theorem rightD_any (bs : By) (na oa : Option Addr) (nc oc : Nat) (NZ OZ : List Int) (w : World) (hnl : NZ.length ≤ 140737488351232) (hol : OZ.length ≤ 140737488351232) (hnx : ZAt w na NZ) (hou : ZAt w oa OZ) :
    Calls Tryz.prog 17 #[auV bs na NZ.length nc oa OZ.length oc] w fun e w' => TellsB (RightZ bs NZ OZ) e ∧ Below w.heap.size w w' := by
  have X1 : Below w.heap.size w (w.alloc (.cells #[.string ⟨bs.toArray⟩, .slice na NZ.length nc, .slice oa OZ.length oc] 24)) := al (Below.refl _ _) _
  have B1 := heap_alloc_new w (.cells #[.string ⟨bs.toArray⟩, .slice na NZ.length nc, .slice oa OZ.length oc] 24)
  obtain ⟨w1, hw1⟩ : ∃ w1, w1 = w.alloc (.cells #[.string ⟨bs.toArray⟩, .slice na NZ.length nc, .slice oa OZ.length oc] 24) := ⟨_, rfl⟩
  rw [← hw1] at X1 B1
  have HC : Hid (∀ V, Below w1.heap.size w1 V → V.cell? ⟨w.heap.size, 0, none⟩ = some (.string ⟨bs.toArray⟩) ∧ V.cell? ⟨w.heap.size, 1, none⟩ = some (.slice na NZ.length nc) ∧ V.cell? ⟨w.heap.size, 2, none⟩ = some (.slice oa OZ.length oc) ∧ ZAt V na NZ ∧ ZAt V oa OZ) := fun V x => by
    have Bv := (x.block _ (lt_of_block B1)).trans B1
    exact ⟨by rw [cell_of_row _ _ _ _ _ _ Bv]; rfl, by rw [cell_of_row _ _ _ _ _ _ Bv]; rfl, by rw [cell_of_row _ _ _ _ _ _ Bv]; rfl, hnx.below (bt X1 x (Nat.le_refl _)), hou.below (bt X1 x (Nat.le_refl _))⟩
  have HX1 := hide X1
  have hlw := lt_of_block B1
  obtain ⟨c0, c1, c2, kx, ko⟩ := HC.out w1 (Below.refl _ _)
  have HMB := hide (leastD_any bs na oa nc oc NZ OZ w1 hnl hol kx ko)
  clear X1 B1 hnx hou kx ko
  unfold auV at HMB ⊢
  by_cases h1 : (256 : Int) < (OZ.length : Int)
  · have HN : Hid (¬ RightZ bs NZ OZ) := fun h => by have := h.1; omega
    have h1d : decide ((256 : Int) < (OZ.length : Int)) = true := by simpa using h1
    go_enter Tryz.func17, Tryz.ntmps17
    go_upto_region 1 with fail
    rw [← hw1]
    clear hw1
    go_wp2
    go_ret
    exact ⟨⟨false, rfl, ⟨fun h => (by cases h), fun h => absurd h HN.out⟩⟩, HX1.out⟩
  · have h1d : decide ((256 : Int) < (OZ.length : Int)) = false := by simpa using h1
    have h256 : OZ.length ≤ 256 := by omega
    go_enter Tryz.func17, Tryz.ntmps17
    go_upto_region 1 with fail
    rw [← hw1]
    clear hw1
    go_wp2_with (fail)
    refine HMB.out.mono ?_
    rintro e w4 ⟨hP, x4⟩
    obtain ⟨bs', xa, xc, oa', oc', NZ', OZ', m, rfl, kx', ko', hR⟩ := hP.flat h256
    have X4 := hide x4
    have HRI := hide hR
    have KX' := hide kx'
    have KO' := hide ko'
    clear HMB c0 c1 c2 hP hR x4 kx' ko' h1 h1d
    unfold auV
    have x5 : Below w4.heap.size w4 (w4.alloc (.cells #[.string ⟨bs'.toArray⟩, .slice xa NZ'.length xc, .slice oa' OZ'.length oc'] 24)) := al (Below.refl _ _) _
    have B5 := heap_alloc_new w4 (.cells #[.string ⟨bs'.toArray⟩, .slice xa NZ'.length xc, .slice oa' OZ'.length oc'] 24)
    have HX5 := hide x5
    have HB5 := hide B5
    have HC5 := hide (HC.out (w4.alloc (.cells #[.string ⟨bs'.toArray⟩, .slice xa NZ'.length xc, .slice oa' OZ'.length oc'] 24)) (bt X4.out x5 (Nat.le_refl _)))
    clear x5 B5
    go_upto_region 4 with fail
    generalize w4.alloc (.cells #[.string ⟨bs'.toArray⟩, .slice xa NZ'.length xc, .slice oa' OZ'.length oc'] 24) = w5 at *
    obtain ⟨c0, c1, c2, kx, ko⟩ := HC5.out
    have e0 : w5.cell? ⟨w4.heap.size, 0, none⟩ = some (.string ⟨bs'.toArray⟩) := by rw [cell_of_row _ _ _ _ _ _ HB5.out]; rfl
    have e1 : w5.cell? ⟨w4.heap.size, 1, none⟩ = some (.slice xa NZ'.length xc) := by rw [cell_of_row _ _ _ _ _ _ HB5.out]; rfl
    have e2 : w5.cell? ⟨w4.heap.size, 2, none⟩ = some (.slice oa' OZ'.length oc') := by rw [cell_of_row _ _ _ _ _ _ HB5.out]; rfl
    have X5 := hide (bt HX1.out (bt X4.out HX5.out (Nat.le_refl _)) (Nat.le_refl _))
    have HSM := hide (sameZ_any bs bs' na oa xa oa' nc oc xc oc' NZ OZ NZ' OZ' w5 hnl hol kx ko (KX'.out.below HX5.out) (KO'.out.below HX5.out))
    unfold auV at HSM
    clear kx ko
    go_wp2_with (fail)
    refine HSM.out.mono ?_
    rintro e w6 ⟨⟨b, rfl, hb⟩, x6⟩
    have X6 := hide (bt X5.out x6 (Nat.le_refl _))
    have HBB := hide hb
    clear HSM hb x6 c0 c1 c2 e0 e1 e2
    by_cases hm : m = 0
    · subst hm
      have HT : Hid (b = true ↔ RightZ bs NZ OZ) := ⟨fun h => HRI.out.1 ⟨HBB.out.1 h, rfl⟩, fun h => HBB.out.2 (HRI.out.2 h).1⟩
      go_wp2
      go_ret
      exact ⟨⟨b, rfl, HT.out⟩, X6.out⟩
    · have hm' : (m == 0) = false := by simpa using hm
      have HN : Hid (¬ RightZ bs NZ OZ) := fun h => hm (HRI.out.2 h).2
      go_wp2
      go_ret
      exact ⟨⟨false, rfl, ⟨fun h => (by cases h), fun h => absurd h HN.out⟩⟩, X6.out⟩
section
variable {P : Program} {ops : Array Oper} {Q : Exit → Act → World → Prop} {md : Region.Mode} {S : World → Prop} {z : Nat}
end
def zC (L : List Int) : List Value := L.map fun z => Value.int .i64 z
theorem zC_len (L : List Int) : (zC L).length = L.length := by simp [zC]
def lnC (L : List Int) (k : Nat) : List Value := zC L ++ (List.replicate k (.int .i64 (-77)) ++ List.replicate (3 - k) (.int .i64 0))
theorem lnC_len (L : List Int) {k : Nat} (h : k ≤ 3) : (lnC L k).length = L.length + 3 := by simp [lnC, zC]; omega
theorem lnC_set (L : List Int) {k : Nat} (h : k < 3) : (lnC L k).set (L.length + k) (.int .i64 (-77)) = lnC L (k + 1) := by
  unfold lnC
  rw [List.set_append_right _ _ (by rw [zC_len]; omega), zC_len, show L.length + k - L.length = k by omega]
  match k, h with
  | 0, _ => rfl
  | 1, _ => rfl
  | 2, _ => rfl
theorem lnC_cp (L : List Int) (n : Nat) (hn : n = L.length + 3) : splice (List.replicate n (Value.int .i64 0)) 0 (zC L) = lnC L 0 := by
  subst hn
  simp [splice, lnC, zC]
def LnA (w : World) (g : Nat) (L : List Int) : Prop := g < w.heap.size ∧ ∀ i (h : i < (lnC L 3).length), w.cell? ⟨g, i, none⟩ = some (lnC L 3)[i]
theorem LnA.below {w w' : World} {g : Nat} {L : List Int} (h : LnA w g L) (x : Below w.heap.size w w') : LnA w' g L := ⟨Nat.lt_of_lt_of_le h.1 x.size, fun i hi => (x.cell (p := ⟨g, i, none⟩) h.1).trans (h.2 i hi)⟩
theorem LnA.z {w : World} {g : Nat} {L : List Int} (h : LnA w g L) : ZAt w (some ⟨g, 0, none⟩) L := .inr ⟨g, 0, rfl, h.1, fun i hi => by
  rw [Nat.zero_add, h.2 i (by rw [lnC_len L (by decide)]; omega)]
  unfold lnC
  rw [List.getElem_append_left (by rw [zC_len]; exact hi)]
  simp [zC]⟩
theorem LnA.more {w : World} {g : Nat} {L : List Int} (h : LnA w g L) {k : Nat} (hk : k < 3) : w.cell? ⟨g, L.length + k, none⟩ = some (.int .i64 (-77)) := by
  rw [h.2 (L.length + k) (by rw [lnC_len L (by decide)]; omega)]
  unfold lnC
  rw [List.getElem_append_right (by rw [zC_len]; omega)]
  match k, hk with
  | 0, _ => simp [zC]
  | 1, _ => simp [zC]
  | 2, _ => simp [zC]
theorem made_ints (n : Nat) : (madeCells (Value.int .i64 0).cells (n * 1)).toList = List.replicate n (.int .i64 0) := by
  simp only [madeCells, Value.cells, Nat.mul_one]
  rw [List.eq_replicate_iff]
  refine ⟨by simp, fun b hb => ?_⟩
  simp only [Array.toList_map, List.mem_map] at hb
  obtain ⟨x, _, rfl⟩ := hb
  simp [Nat.mod_one]
theorem full_block {w : World} {base g n : Nat} {xs : List Value} (h : w.ownsRow base 3 1 (.slice (some ⟨g, 0, none⟩) n n) n xs) : w.heap[g]? = some (.cells xs.toArray 3 (0, 0)) := by
  rcases h.2 with ⟨h', _⟩ | ⟨g', cap', cur, h', hb, hg, hnc, hcm, hcs, htake⟩
  · simp at h'
  · simp only [Value.slice.injEq, Option.some.injEq, Addr.mk.injEq, and_true, true_and] at h'
    obtain ⟨rfl, rfl⟩ := h'
    rw [hg, ← htake, List.take_of_length_le (by simp; omega)]
theorem own_block {w : World} {base g n : Nat} {xs : List Value} (h : w.heap[g]? = some (.cells xs.toArray 3 (0, 0))) (hb : base ≤ g) (hn : xs.length = n) (hm : n ≤ maxLen) : w.ownsRow base 3 1 (.slice (some ⟨g, 0, none⟩) n n) n xs :=
  ⟨by omega, .inr ⟨g, n, xs.toArray, rfl, hb, h, Nat.le_refl _, hm, by simp [hn], by simp [List.take_of_length_le, hn]⟩⟩
theorem two_rows {w0 w : World} {g1 g2 n1 n2 : Nat} {A B : List Value} (x : Below w0.heap.size w0 w) (h1 : w.heap[g1]? = some (.cells A.toArray 3 (0, 0))) (h2 : w.heap[g2]? = some (.cells B.toArray 3 (0, 0))) (hb1 : w0.heap.size ≤ g1) (hb2 : w0.heap.size ≤ g2) (hne : g1 ≠ g2) (hn1 : A.length = n1) (hn2 : B.length = n2) (hm1 : n1 ≤ maxLen) (hm2 : n2 ≤ maxLen) :
    Fr w0 [(.slice (some ⟨g1, 0, none⟩) n1 n1, 3, A), (.slice (some ⟨g2, 0, none⟩) n2 n2, 3, B)] w := by
  subst hn1 hn2
  refine ⟨⟨fun j hj => ?_, fun j hj k hk hjk b e1 e2 => ?_⟩, x⟩
  · match j, hj with
    | 0, _ => exact own_block h1 hb1 rfl hm1
    | 1, _ => exact own_block h2 hb2 rfl hm2
  · match j, hj, k, hk with
    | 0, _, 0, _ => exact hjk rfl
    | 1, _, 1, _ => exact hjk rfl
    | 0, _, 1, _ =>
      have a1 : g1 = b := Option.some.inj e1
      have a2 : g2 = b := Option.some.inj e2
      exact hne (a1.trans a2.symm)
    | 1, _, 0, _ =>
      have a1 : g2 = b := Option.some.inj e1
      have a2 : g1 = b := Option.some.inj e2
      exact hne (a2.trans a1.symm)
theorem ZAt.src {w : World} {ao : Option Addr} {L : List Int} (h : ZAt w ao L) (h0 : 0 < (zC L).length) : ∃ ad, ao = some ad ∧ ∀ j v, (zC L)[j]? = some v → w.cell? (ad.add j) = some v := by
  rw [zC_len] at h0
  rcases h with h | ⟨b, off, e, hb, h⟩
  · rw [h] at h0; cases h0
  · refine ⟨_, e, fun j v hv => ?_⟩
    obtain ⟨hj, e2⟩ := List.getElem?_eq_some_iff.1 hv
    rw [zC_len] at hj
    rw [addr_add', h j hj, ← e2]
    simp [zC]
set_option maxRecDepth 100000 in
set_option maxHeartbeats 8000000 in
theorem lentA_any (bs : By) (na oa : Option Addr) (nc oc : Nat) (NZ OZ : List Int) (w : World) (hnl : NZ.length ≤ 17592186043904) (hol : OZ.length ≤ 17592186043904) (hnx : ZAt w na NZ) (hou : ZAt w oa OZ) :
    Calls Tryz.prog 11 #[auV bs na NZ.length nc oa OZ.length oc] w fun e w' => (∃ gx go, e = .returned (auV bs (some ⟨gx, 0, none⟩) NZ.length (NZ.length + 3) (some ⟨go, 0, none⟩) OZ.length (OZ.length + 3)) ∧ LnA w' gx NZ ∧ LnA w' go OZ) ∧ Below w.heap.size w w' := by
  obtain ⟨i3, hi3, hz30, hz31, hz32⟩ := info_parts Tryz.info3n
  have HI3 : Hid ((Tryz.prog.info? 3).map (·.size) = some 1) := by unfold Hid; kernel_rfl
  have HI : Hid ((Tryz.prog.info? 24).map (·.size) = some 3) := by unfold Hid; kernel_rfl
  obtain ⟨w2, hw2⟩ : ∃ w2, w2 = (w.alloc (.cells #[.string ⟨bs.toArray⟩, .slice na NZ.length nc, .slice oa OZ.length oc] 24)).alloc (.cells #[.string ⟨#[]⟩, .slice none 0 0, .slice none 0 0] 24) := ⟨_, rfl⟩
  obtain ⟨X2, B1, B2, hs2⟩ := two_alloc' w #[.string ⟨bs.toArray⟩, .slice na NZ.length nc, .slice oa OZ.length oc] #[.string ⟨#[]⟩, .slice none 0 0, .slice none 0 0] 24 24
  rw [← hw2] at X2 B1 B2 hs2
  have HC : Hid (∀ V, Below w2.heap.size w2 V → (V.cell? ⟨w.heap.size, 0, none⟩ = some (.string ⟨bs.toArray⟩) ∧ V.cell? ⟨w.heap.size, 1, none⟩ = some (.slice na NZ.length nc) ∧ V.cell? ⟨w.heap.size, 2, none⟩ = some (.slice oa OZ.length oc)) ∧ V.heap[w.heap.size + 1]? = some (.cells #[.string ⟨#[]⟩, .slice none 0 0, .slice none 0 0] 24 (0, 0)) ∧ ZAt V na NZ ∧ ZAt V oa OZ) := fun V x => by
    have Bv := (x.block _ (lt_of_block B1)).trans B1
    exact ⟨⟨by rw [cell_of_row _ _ _ _ _ _ Bv]; rfl, by rw [cell_of_row _ _ _ _ _ _ Bv]; rfl, by rw [cell_of_row _ _ _ _ _ _ Bv]; rfl⟩, (x.block _ (lt_of_block B2)).trans B2, hnx.below (bt X2 x (Nat.le_refl _)), hou.below (bt X2 x (Nat.le_refl _))⟩
  have HX2 := hide X2
  have HS2 := hide hs2
  have HCN : Hid ((NZ.length : Int) + 3 = ((NZ.length + 3 : Nat) : Int)) := by unfold Hid; omega
  have HCO : Hid ((OZ.length : Int) + 3 = ((OZ.length + 3 : Nat) : Int)) := by unfold Hid; omega
  obtain ⟨⟨c0, c1, c2⟩, -⟩ := HC.out w2 (Below.refl _ _)
  clear X2 B1 B2 hs2 hnx hou
  unfold auV
  go_enter Tryz.func11, Tryz.ntmps11
  go_upto_region 1 with fail
  rw [← hw2]
  clear hw2
  go_upto_region 2 with (at_make; refine wpList_make_full _ rfl (.tmp 9) (.tmp 9) 22 rfl w2.heap.size 3 i3 (.int .i64 0) 1 Tryz.underlying22 hi3 hz30 hz31 .i64 .i64 _ _ (NZ.length + 3) rfl rfl HCN.out HCN.out (by rw [hz32]; omega) (by unfold maxLen; omega) (Nat.le_refl _) ?_; intro w3 m1 m2; rw [made_ints] at m1; have M1 := hide (full_block m1); have X3 := hide (below_of_grown m2); clear m1 m2)
  clear c0 c1 c2
  obtain ⟨⟨c0, c1, c2⟩, -, kx, -⟩ := HC.out w3 X3.out
  have P1 := hide (fun (h0 : 0 < (zC NZ).length) => (⟨rfl, kx.src h0⟩ : (some (⟨w2.heap.size, 0, none⟩ : Addr)) = some ⟨w2.heap.size, 0, none⟩ ∧ _))
  clear kx
  go_upto_region 3 with (refine wpList_copy_splice rfl (.tmp 11) (.tmp 13) 22 22 rfl 3 Tryz.underlying22 HI3.out _ na (NZ.length + 3) (NZ.length + 3) NZ.length nc rfl rfl w2.heap.size 0 _ 3 M1.out (zC NZ) (by rw [zC_len]; exact (Nat.min_eq_left (by omega)).symm) P1.out (by rw [zC_len, List.length_replicate]; omega) (fun v hv => by obtain ⟨z, _, rfl⟩ := List.mem_map.1 hv; rfl) w2.heap.size w2 X3.out (Nat.le_refl _) ?_; intro w4 m1 x4; rw [lnC_cp NZ _ rfl] at m1; have M4 := hide m1.out; have X4 := hide x4; clear m1 x4)
  obtain ⟨gx, hgx⟩ : ∃ gx, gx = w2.heap.size := ⟨_, rfl⟩
  rw [← hgx] at M4 ⊢
  have HGX := hide hgx
  clear c0 c1 c2 M1 P1 X3 hgx
  obtain ⟨⟨c0, c1, c2⟩, -, -, -⟩ := HC.out w4 X4.out
  go_upto_region 4 with (at_make; refine wpList_make_full _ rfl (.tmp 18) (.tmp 18) 22 rfl w4.heap.size 3 i3 (.int .i64 0) 1 Tryz.underlying22 hi3 hz30 hz31 .i64 .i64 _ _ (OZ.length + 3) rfl rfl HCO.out HCO.out (by rw [hz32]; omega) (by unfold maxLen; omega) (Nat.le_refl _) ?_; intro w5 m1 m2; rw [made_ints] at m1; have M5 := hide (full_block m1); have X5 := hide (below_of_grown m2); clear m1 m2)
  clear c0 c1 c2
  obtain ⟨⟨c0, c1, c2⟩, -, -, ko⟩ := HC.out w5 (bt X4.out X5.out (Nat.le_refl _))
  have P1 := hide (fun (h0 : 0 < (zC OZ).length) => (⟨rfl, ko.src h0⟩ : (some (⟨w4.heap.size, 0, none⟩ : Addr)) = some ⟨w4.heap.size, 0, none⟩ ∧ _))
  clear ko
  go_upto_region 5 with (refine wpList_copy_splice rfl (.tmp 20) (.tmp 22) 22 22 rfl 3 Tryz.underlying22 HI3.out _ oa (OZ.length + 3) (OZ.length + 3) OZ.length oc rfl rfl w4.heap.size 0 _ 3 M5.out (zC OZ) (by rw [zC_len]; exact (Nat.min_eq_left (by omega)).symm) P1.out (by rw [zC_len, List.length_replicate]; omega) (fun v hv => by obtain ⟨z, _, rfl⟩ := List.mem_map.1 hv; rfl) w4.heap.size w4 X5.out (Nat.le_refl _) ?_; intro w6 m1 x6; rw [lnC_cp OZ _ rfl] at m1; have M6 := hide m1.out; have X6 := hide x6; clear m1 x6)
  obtain ⟨go, hgo⟩ : ∃ go, go = w4.heap.size := ⟨_, rfl⟩
  have F6 : Hid (Fr w2 [(.slice (some ⟨gx, 0, none⟩) (NZ.length + 3) (NZ.length + 3), 3, lnC NZ 0), (.slice (some ⟨go, 0, none⟩) (OZ.length + 3) (OZ.length + 3), 3, lnC OZ 0)] w6) := by
    have hg1 : gx < w4.heap.size := lt_of_block M4.out
    have hgx := HGX.out
    refine two_rows (bt X4.out X6.out (Nat.le_refl _)) ((X6.out.block gx hg1).trans M4.out) (by rw [hgo]; exact M6.out) (by omega) (by have := X4.out.size; omega) (by omega) (lnC_len NZ (by decide)) (lnC_len OZ (by decide)) (by unfold maxLen; omega) (by unfold maxLen; omega)
  rw [← hgo]
  clear c0 c1 c2 M5 M6 M4 P1 X5 X6 X4 hgo HGX
  go_wp2
  go_loopg [5] 4 (fun g x wr => ∃ k : Nat, x = .int .i64 (k : Nat) ∧ k ≤ 3 ∧ Hid (Fr w2 [(.slice (some ⟨gx, 0, none⟩) (NZ.length + 3) (NZ.length + 3), 3, lnC NZ k), (.slice (some ⟨go, 0, none⟩) (OZ.length + 3) (OZ.length + 3), 3, lnC OZ k)] wr) ∧ 3 - k < g)
  case atStart => exact ⟨0, rfl, by omega, F6, by omega⟩
  case round =>
    clear F6
    obtain ⟨k, rfl, hk1, F, hg⟩ := hrel
    have HG := hide hg
    clear hg
    obtain ⟨⟨c0, c1, c2⟩, B7, -, -⟩ := HC.out wr F.out.bel
    by_cases hk : k < 3
    · as_aux_lemma =>
      have hk' : (k : Int) < 3 := by omega
      obtain ⟨s0, s1⟩ := F.out.slot (i := 0) (by simp) rfl (k := NZ.length + k) (by rw [lnC_len NZ (by omega)]; omega)
      have F1 := F.out.store (i := 0) (by simp) rfl (NZ.length + k) (.int .i64 (-77))
      rw [lnC_set NZ hk] at F1
      have F1 : Hid (Fr w2 [(.slice (some ⟨gx, 0, none⟩) (NZ.length + 3) (NZ.length + 3), 3, lnC NZ (k + 1)), (.slice (some ⟨go, 0, none⟩) (OZ.length + 3) (OZ.length + 3), 3, lnC OZ k)] (wr.setCell ⟨gx, NZ.length + k, none⟩ (.int .i64 (-77)))) := F1
      have f2 : IntKind.i64.wrap ((NZ.length : Int) + (k : Int)) = (NZ.length : Int) + (k : Int) := by rw [show (NZ.length : Int) + (k : Int) = ((NZ.length + k : Nat) : Int) by omega]; exact w64_n _ (by omega)
      have f3 : (NZ.length : Int) + (k : Int) < (NZ.length : Int) + 3 := by omega
      have f4 : (0 : Int) ≤ (NZ.length : Int) + (k : Int) := by omega
      have f5 : ((NZ.length : Int) + (k : Int)).toNat = NZ.length + k := by omega
      clear B7
      go_upto_region 9 with fail
      obtain ⟨wa, hwa⟩ : ∃ wa, wa = wr.setCell ⟨gx, NZ.length + k, none⟩ (.int .i64 (-77)) := ⟨_, rfl⟩
      rw [← hwa] at F1 ⊢
      clear hwa s0 s1 f2 f3 f4 f5 c0 c1 c2 F
      obtain ⟨⟨c0, c1, c2⟩, -⟩ := HC.out wa F1.out.bel
      obtain ⟨s0, s1⟩ := F1.out.slot (i := 1) (by simp) rfl (k := OZ.length + k) (by rw [lnC_len OZ (by omega)]; omega)
      have F2 := F1.out.store (i := 1) (by simp) rfl (OZ.length + k) (.int .i64 (-77))
      rw [lnC_set OZ hk] at F2
      have F2 : Hid (Fr w2 [(.slice (some ⟨gx, 0, none⟩) (NZ.length + 3) (NZ.length + 3), 3, lnC NZ (k + 1)), (.slice (some ⟨go, 0, none⟩) (OZ.length + 3) (OZ.length + 3), 3, lnC OZ (k + 1))] (wa.setCell ⟨go, OZ.length + k, none⟩ (.int .i64 (-77)))) := F2
      have f2 : IntKind.i64.wrap ((OZ.length : Int) + (k : Int)) = (OZ.length : Int) + (k : Int) := by rw [show (OZ.length : Int) + (k : Int) = ((OZ.length + k : Nat) : Int) by omega]; exact w64_n _ (by omega)
      have f3 : (OZ.length : Int) + (k : Int) < (OZ.length : Int) + 3 := by omega
      have f4 : (0 : Int) ≤ (OZ.length : Int) + (k : Int) := by omega
      have f5 : ((OZ.length : Int) + (k : Int)).toNat = OZ.length + k := by omega
      go_wp2
      go_roundg (3 - (k + 1) + 1)
      case measure => have := HG.out; omega
      case rel => exact ⟨k + 1, by first | rfl | go_num | (congr 1; omega), by omega, F2, by omega⟩
    · as_aux_lemma =>
      have hk' : ¬ (k : Int) < 3 := by omega
      obtain rfl : k = 3 := by omega
      obtain ⟨S, HSE, HS0⟩ : ∃ S : World → Prop, Hid (∀ V, S V → V.cell? ⟨w.heap.size, 0, none⟩ = some (.string ⟨bs.toArray⟩) ∧ V.cell? ⟨w.heap.size, 1, none⟩ = some (.slice na NZ.length nc) ∧ V.cell? ⟨w.heap.size, 2, none⟩ = some (.slice oa OZ.length oc)) ∧ Hid (S wr.drew) := ⟨_, fun V h => h, ⟨c0, c1, c2⟩⟩
      have FD := hide (F.out.below (Below.refl _ _).drew)
      have BD : wr.drew.heap[w.heap.size + 1]? = some (.cells #[.string ⟨#[]⟩, .slice none 0 0, .slice none 0 0] 24 (0, 0)) := B7
      clear c0 c1 c2 B7 F
      go_upto_region 10 with fail
      refine wp_unt (S := S) 13 (by kernel_rfl) ?_
      generalize wr.drew = wd at *
      have HBD := hide BD
      clear BD
      have hN3 : (NZ.length : Int) ≤ (NZ.length : Int) + 3 := by omega
      have hO3 : (OZ.length : Int) ≤ (OZ.length : Int) + 3 := by omega
      refine UntH.take (i := 0) (some 42) rfl rfl (by kernel_rfl) (by kernel_rfl) (by kernel_rfl) (by kernel_rfl) (fun _ _ _ _ h => h) (by rfl) HS0.out ?_
      apply Exists.intro
      refine ⟨fun w' hw' => ?_, ?_⟩
      · obtain ⟨q0, q1, q2⟩ := HSE.out w' hw'
        go_simp
        first | done | rfl
      try simp only [Act.put, List.setIfInBounds_toArray, List.set_cons_zero, List.set_cons_succ]
      refine UntH.take (i := 1) (some 43) rfl rfl (by kernel_rfl) (by kernel_rfl) (by kernel_rfl) (by kernel_rfl) (fun _ _ _ _ h => h) (by rfl) HS0.out ?_
      apply Exists.intro
      refine ⟨fun w' hw' => ?_, ?_⟩
      · obtain ⟨q0, q1, q2⟩ := HSE.out w' hw'
        go_simp
        first | done | rfl
      try simp only [Act.put, List.setIfInBounds_toArray, List.set_cons_zero, List.set_cons_succ]
      refine UntH.take (i := 2) (some 44) rfl rfl (by kernel_rfl) (by kernel_rfl) (by kernel_rfl) (by kernel_rfl) (fun _ _ _ _ h => h) (by rfl) HS0.out ?_
      apply Exists.intro
      refine ⟨fun w' hw' => ?_, ?_⟩
      · obtain ⟨q0, q1, q2⟩ := HSE.out w' hw'
        go_simp
        first | done | rfl
      try simp only [Act.put, List.setIfInBounds_toArray, List.set_cons_zero, List.set_cons_succ]
      refine UntH.take (i := 3) (some 45) rfl rfl (by kernel_rfl) (by kernel_rfl) (by kernel_rfl) (by kernel_rfl) (fun _ _ _ _ h => h) (by rfl) HS0.out ?_
      apply Exists.intro
      refine ⟨fun w' hw' => ?_, ?_⟩
      · obtain ⟨q0, q1, q2⟩ := HSE.out w' hw'
        go_simp
        first | done | rfl
      try simp only [Act.put, List.setIfInBounds_toArray, List.set_cons_zero, List.set_cons_succ]
      refine UntH.take (i := 4) (some 46) rfl rfl (by kernel_rfl) (by kernel_rfl) (by kernel_rfl) (by kernel_rfl) (fun _ _ _ _ h => h) (by rfl) HS0.out ?_
      apply Exists.intro
      refine ⟨fun w' hw' => ?_, ?_⟩
      · obtain ⟨q0, q1, q2⟩ := HSE.out w' hw'
        go_simp
        first | done | rfl
      try simp only [Act.put, List.setIfInBounds_toArray, List.set_cons_zero, List.set_cons_succ]
      refine UntH.take (i := 5) (some 47) rfl rfl (by kernel_rfl) (by kernel_rfl) (by kernel_rfl) (by kernel_rfl) (fun _ _ _ _ h => h) (by rfl) HS0.out ?_
      apply Exists.intro
      refine ⟨fun w' hw' => ?_, ?_⟩
      · obtain ⟨q0, q1, q2⟩ := HSE.out w' hw'
        go_simp
        first | done | rfl
      try simp only [Act.put, List.setIfInBounds_toArray, List.set_cons_zero, List.set_cons_succ]
      refine UntH.take (i := 6) (some 48) rfl rfl (by kernel_rfl) (by kernel_rfl) (by kernel_rfl) (by kernel_rfl) (fun _ _ _ _ h => h) (by rfl) HS0.out ?_
      apply Exists.intro
      refine ⟨fun w' hw' => ?_, ?_⟩
      · obtain ⟨q0, q1, q2⟩ := HSE.out w' hw'
        go_simp
        first | done | rfl
      try simp only [Act.put, List.setIfInBounds_toArray, List.set_cons_zero, List.set_cons_succ]
      refine UntH.take (i := 7) (some 49) rfl rfl (by kernel_rfl) (by kernel_rfl) (by kernel_rfl) (by kernel_rfl) (fun _ _ _ _ h => h) (by rfl) HS0.out ?_
      apply Exists.intro
      refine ⟨fun w' hw' => ?_, ?_⟩
      · obtain ⟨q0, q1, q2⟩ := HSE.out w' hw'
        go_simp
        first | done | rfl
      try simp only [Act.put, List.setIfInBounds_toArray, List.set_cons_zero, List.set_cons_succ]
      refine UntH.take (i := 8) (some 50) rfl rfl (by kernel_rfl) (by kernel_rfl) (by kernel_rfl) (by kernel_rfl) (fun _ _ _ _ h => h) (by rfl) HS0.out ?_
      apply Exists.intro
      refine ⟨fun w' hw' => ?_, ?_⟩
      · obtain ⟨q0, q1, q2⟩ := HSE.out w' hw'
        go_simp
        first | done | rfl
      try simp only [Act.put, List.setIfInBounds_toArray, List.set_cons_zero, List.set_cons_succ]
      refine UntH.take (i := 9) (some 51) rfl rfl (by kernel_rfl) (by kernel_rfl) (by kernel_rfl) (by kernel_rfl) (fun _ _ _ _ h => h) (by rfl) HS0.out ?_
      apply Exists.intro
      refine ⟨fun w' hw' => ?_, ?_⟩
      · obtain ⟨q0, q1, q2⟩ := HSE.out w' hw'
        go_simp
        first | done | rfl
      try simp only [Act.put, List.setIfInBounds_toArray, List.set_cons_zero, List.set_cons_succ]
      refine UntH.take (i := 10) (some 52) rfl rfl (by kernel_rfl) (by kernel_rfl) (by kernel_rfl) (by kernel_rfl) (fun _ _ _ _ h => h) (by rfl) HS0.out ?_
      apply Exists.intro
      refine ⟨fun w' hw' => ?_, ?_⟩
      · obtain ⟨q0, q1, q2⟩ := HSE.out w' hw'
        go_simp
        first | done | rfl
      try simp only [Act.put, List.setIfInBounds_toArray, List.set_cons_zero, List.set_cons_succ]
      refine UntH.take (i := 11) (some 53) rfl rfl (by kernel_rfl) (by kernel_rfl) (by kernel_rfl) (by kernel_rfl) (fun _ _ _ _ h => h) (by rfl) HS0.out ?_
      apply Exists.intro
      refine ⟨fun w' hw' => ?_, ?_⟩
      · obtain ⟨q0, q1, q2⟩ := HSE.out w' hw'
        go_simp
        first | done | rfl
      try simp only [Act.put, List.setIfInBounds_toArray, List.set_cons_zero, List.set_cons_succ]
      refine UntH.take (i := 12) (some 54) rfl rfl (by kernel_rfl) (by kernel_rfl) (by kernel_rfl) (by kernel_rfl) (fun _ _ _ _ h => h) (by rfl) HS0.out ?_
      apply Exists.intro
      refine ⟨fun w' hw' => ?_, ?_⟩
      · obtain ⟨q0, q1, q2⟩ := HSE.out w' hw'
        go_simp
        first | done | rfl
      try simp only [Act.put, List.setIfInBounds_toArray, List.set_cons_zero, List.set_cons_succ]
      have A4 : Hid ((#[.string ⟨bs.toArray⟩, .slice (some ⟨gx, 0, none⟩) NZ.length (NZ.length + 3), .slice (some ⟨go, 0, none⟩) OZ.length (OZ.length + 3)] : Array Value).all (·.oneCell') = true) := by unfold Hid; simp [Value.oneCell']
      refine UntH.last (by kernel_rfl) rfl (by kernel_rfl) (by kernel_rfl) (fun K hK => ?_)
      rw [if_pos (by rfl)]
      refine wp_store_row 24 (.tmp 2) (.tmp 54) rfl (w.heap.size + 1) #[.string ⟨bs.toArray⟩, .slice (some ⟨gx, 0, none⟩) NZ.length (NZ.length + 3), .slice (some ⟨go, 0, none⟩) OZ.length (OZ.length + 3)] rfl rfl 24 #[.string ⟨#[]⟩, .slice none 0 0, .slice none 0 0] HBD.out HI.out rfl A4.out (hK _ _ ?_)
      clear hK K
      have B6 := setRow_heap wd (w.heap.size + 1) _ #[.string ⟨bs.toArray⟩, .slice (some ⟨gx, 0, none⟩) NZ.length (NZ.length + 3), .slice (some ⟨go, 0, none⟩) OZ.length (OZ.length + 3)] 24 (0, 0) HBD.out
      have k6 : Kept (fun k => k = w.heap.size + 1) wd (wd.setRow (w.heap.size + 1) #[.string ⟨bs.toArray⟩, .slice (some ⟨gx, 0, none⟩) NZ.length (NZ.length + 3), .slice (some ⟨go, 0, none⟩) OZ.length (OZ.length + 3)]) := kept_row
      have x5 := bt HX2.out FD.out.bel (Nat.le_refl _)
      have X6 := hide (x5.trans (k6.below x5.size (fun b hb => by omega)))
      have hs2 := HS2.out
      have HLX : Hid (LnA (wd.setRow (w.heap.size + 1) #[.string ⟨bs.toArray⟩, .slice (some ⟨gx, 0, none⟩) NZ.length (NZ.length + 3), .slice (some ⟨go, 0, none⟩) OZ.length (OZ.length + 3)]) gx NZ) := by
        have hl := World.ownsRow.lt (FD.out.own (i := 0) (by simp) rfl) gx rfl
        refine ⟨by have := k6.size; omega, fun i hi => ?_⟩
        rw [k6.cell (p := ⟨gx, i, none⟩) hl.2 (by show ¬ gx = _; omega)]
        exact (FD.out.slot (i := 0) (by simp) rfl (k := i) hi).1
      have HLO : Hid (LnA (wd.setRow (w.heap.size + 1) #[.string ⟨bs.toArray⟩, .slice (some ⟨gx, 0, none⟩) NZ.length (NZ.length + 3), .slice (some ⟨go, 0, none⟩) OZ.length (OZ.length + 3)]) go OZ) := by
        have hl := World.ownsRow.lt (FD.out.own (i := 1) (by simp) rfl) go rfl
        refine ⟨by have := k6.size; omega, fun i hi => ?_⟩
        rw [k6.cell (p := ⟨go, i, none⟩) hl.2 (by show ¬ go = _; omega)]
        exact (FD.out.slot (i := 1) (by simp) rfl (k := i) hi).1
      have z0 := cell_of_row _ _ 0 _ _ _ B6
      have z1 := cell_of_row _ _ 1 _ _ _ B6
      have z2 := cell_of_row _ _ 2 _ _ _ B6
      clear B6 k6 x5 FD hs2
      go_wp2
      refine bodyPost_ret (by simp [results, Tryz.results11, go_sem, z0, z1, z2]; try rfl) rfl ?_
      exact ⟨⟨gx, go, rfl, HLX.out, HLO.out⟩, X6.out⟩
end Go.Proofs.YtdgoilkgplnhfaaGreat
