/-
  The document's Same, of any two automata of raw numbers: true just if they read alike. Condition: lists no longer than a process can hold.
-/
import Derived.Test.YtdgoilkgplnhfabGreatB35
namespace Go.Proofs.YtdgoilkgplnhfabGreat
open Go.RowKit Go.Lib
theorem eq_upto {A B : List Int} (hl : A.length = B.length) (h : ∀ i (ha : i < A.length) (hb : i < B.length), A[i] = B[i]) : A = B := List.ext_getElem hl h
set_option maxRecDepth 100000 in
set_option maxHeartbeats 4000000 in
theorem sameZ_any (bs cs : By) (xA oA xB oB : Option Addr) (xAc oAc xBc oBc : Nat) (NA OA NB OB : List Int) (w : World) (hn : NA.length ≤ 140737488351232) (ho : OA.length ≤ 140737488351232) (h1 : ZAt w xA NA) (h2 : ZAt w oA OA) (h3 : ZAt w xB NB) (h4 : ZAt w oB OB) :
    Calls Tryz.prog 8 #[auV bs xA NA.length xAc oA OA.length oAc, auV cs xB NB.length xBc oB OB.length oBc] w fun e w' => TellsB (bs = cs ∧ NA = NB ∧ OA = OB) e ∧ Below w.heap.size w w' := by
  obtain ⟨w2, hw2⟩ : ∃ w2, w2 = (w.alloc (.cells #[.string ⟨bs.toArray⟩, .slice xA NA.length xAc, .slice oA OA.length oAc] 24)).alloc (.cells #[.string ⟨cs.toArray⟩, .slice xB NB.length xBc, .slice oB OB.length oBc] 24) := ⟨_, rfl⟩
  obtain ⟨X2, B1, B2, hs2⟩ := two_alloc' w #[.string ⟨bs.toArray⟩, .slice xA NA.length xAc, .slice oA OA.length oAc] #[.string ⟨cs.toArray⟩, .slice xB NB.length xBc, .slice oB OB.length oBc] 24 24
  rw [← hw2] at X2 B1 B2 hs2
  have HC : Hid (∀ V, Below w2.heap.size w2 V → (V.cell? ⟨w.heap.size, 0, none⟩ = some (.string ⟨bs.toArray⟩) ∧ V.cell? ⟨w.heap.size, 1, none⟩ = some (.slice xA NA.length xAc) ∧ V.cell? ⟨w.heap.size, 2, none⟩ = some (.slice oA OA.length oAc)) ∧ (V.cell? ⟨w.heap.size + 1, 0, none⟩ = some (.string ⟨cs.toArray⟩) ∧ V.cell? ⟨w.heap.size + 1, 1, none⟩ = some (.slice xB NB.length xBc) ∧ V.cell? ⟨w.heap.size + 1, 2, none⟩ = some (.slice oB OB.length oBc)) ∧ ZAt V xA NA ∧ ZAt V oA OA ∧ ZAt V xB NB ∧ ZAt V oB OB) := fun V x => by
    have Bv := (x.block _ (lt_of_block B1)).trans B1
    have Bw := (x.block _ (lt_of_block B2)).trans B2
    have y := bt X2 x (Nat.le_refl _)
    exact ⟨⟨by rw [cell_of_row _ _ _ _ _ _ Bv]; rfl, by rw [cell_of_row _ _ _ _ _ _ Bv]; rfl, by rw [cell_of_row _ _ _ _ _ _ Bv]; rfl⟩, ⟨by rw [cell_of_row _ _ _ _ _ _ Bw]; rfl, by rw [cell_of_row _ _ _ _ _ _ Bw]; rfl, by rw [cell_of_row _ _ _ _ _ _ Bw]; rfl⟩, h1.below y, h2.below y, h3.below y, h4.below y⟩
  have HX2 := hide X2
  have NOT : Hid (∀ P : Prop, ¬ P → TellsB P (.returned (.bool false))) := fun P h => ⟨false, rfl, by simp [h]⟩
  obtain ⟨⟨c0, c1, c2⟩, ⟨d0, d1, d2⟩, _⟩ := HC.out w2 (Below.refl _ _)
  clear X2 B1 B2 hs2 h1 h2 h3 h4
  unfold auV
  go_enter Tryz.func8, Tryz.ntmps8
  go_upto_region 1 with fail
  rw [← hw2]
  clear hw2
  by_cases hb : bs = cs
  case neg =>
    have hsn : ¬ (⟨bs.toArray⟩ : ByteArray) = ⟨cs.toArray⟩ := fun e => hb (by injection e with e; simpa using congrArg Array.toList e)
    have HN : Hid (¬ (bs = cs ∧ NA = NB ∧ OA = OB)) := fun h => hb h.1
    go_wp2
    go_ret
    exact ⟨NOT.out _ HN.out, HX2.out⟩
  subst hb
  by_cases hl1 : NA.length = NB.length
  case neg =>
    have b1 : ((NA.length : Int) != (NB.length : Int)) = true := by simp; omega
    have HN : Hid (¬ (bs = bs ∧ NA = NB ∧ OA = OB)) := fun h => hl1 (by rw [h.2.1])
    go_wp2
    go_ret
    exact ⟨NOT.out _ (fun h => HN.out ⟨trivial, h⟩), HX2.out⟩
  by_cases hl2 : OA.length = OB.length
  case neg =>
    have b1 : ((NA.length : Int) != (NB.length : Int)) = false := by simp; omega
    have b2 : ((OA.length : Int) != (OB.length : Int)) = true := by simp; omega
    have HN : Hid (¬ (bs = bs ∧ NA = NB ∧ OA = OB)) := fun h => hl2 (by rw [h.2.2])
    go_wp2
    go_ret
    exact ⟨NOT.out _ (fun h => HN.out ⟨trivial, h⟩), HX2.out⟩
  have HL1 := hide hl1
  have HL2 := hide hl2
  rw [← hl1] at d1
  rw [← hl2] at d2
  have HC2 : Hid (∀ V, Below w2.heap.size w2 V → (V.cell? ⟨w.heap.size, 0, none⟩ = some (.string ⟨bs.toArray⟩) ∧ V.cell? ⟨w.heap.size, 1, none⟩ = some (.slice xA NA.length xAc) ∧ V.cell? ⟨w.heap.size, 2, none⟩ = some (.slice oA OA.length oAc)) ∧ (V.cell? ⟨w.heap.size + 1, 0, none⟩ = some (.string ⟨bs.toArray⟩) ∧ V.cell? ⟨w.heap.size + 1, 1, none⟩ = some (.slice xB NA.length xBc) ∧ V.cell? ⟨w.heap.size + 1, 2, none⟩ = some (.slice oB OA.length oBc)) ∧ ZAt V xA NA ∧ ZAt V oA OA ∧ ZAt V xB NB ∧ ZAt V oB OB) := fun V x => by
    have := HC.out V x
    rw [← HL1.out, ← HL2.out] at this
    exact this
  clear hl1 hl2 HC
  go_wp2
  go_loopg [5] (NA.length + 1) (fun g x wr => ∃ k : Nat, x = .int .i64 (k : Nat) ∧ k ≤ NA.length ∧ Hid (Below w2.heap.size w2 wr) ∧ Hid (∀ i (ha : i < NA.length) (hb : i < NB.length), i < k → NA[i] = NB[i]) ∧ NA.length - k < g)
  case atStart => exact ⟨0, rfl, by omega, Below.refl _ _, fun i _ _ h => by omega, by omega⟩
  case round =>
    obtain ⟨k, rfl, hk1, X, HE, hg⟩ := hrel
    have HG := hide hg
    have XV := hide (bt HX2.out X.out (Nat.le_refl _))
    clear hg c0 c1 c2 d0 d1 d2
    obtain ⟨⟨c0, c1, c2⟩, ⟨d0, d1, d2⟩, kxA, koA, kxB, koB⟩ := HC2.out wr X.out
    by_cases hk : k < NA.length
    · have hk' : (k : Int) < (NA.length : Int) := by omega
      have hkB : k < NB.length := by have := HL1.out; omega
      obtain ⟨pa, oa, rfl, ca⟩ := kxA.get hk
      obtain ⟨pb, ob, rfl, cb⟩ := kxB.get hkB
      have HS : Hid (NA[k] = NB[k] → ∀ i (ha : i < NA.length) (hb : i < NB.length), i < k + 1 → NA[i] = NB[i]) := fun h i ha hb hik => by
        rcases Nat.lt_or_ge i k with h1 | h1
        · exact HE.out i ha hb h1
        · obtain rfl : i = k := by omega
          exact h
      have HN : Hid (¬ NA[k] = NB[k] → ¬ (bs = bs ∧ NA = NB ∧ OA = OB)) := fun h h' => h (by have := h'.2.1; subst this; rfl)
      clear kxA kxB koA koB HE
      generalize NA[k] = x at *
      generalize NB[k] = y at *
      by_cases hxy : x = y
      · subst hxy
        have bxy : (x != x) = false := by simp
        have HS2 := hide (HS.out rfl)
        clear HS HN
        go_wp2
        go_quiet (fail)
        have X6 : Hid (Below w2.heap.size w2 (wr.drewN nq)) := X.out.trans ⟨rfl, rfl, rfl, Nat.le_refl _, fun _ _ => rfl⟩
        go_wp2
        go_roundg (NA.length - (k + 1) + 1)
        case measure => have := HG.out; omega
        case rel => exact ⟨k + 1, by first | rfl | go_num | (congr 1; omega), by omega, X6, HS2, by omega⟩
      · have bxy : (x != y) = true := by simpa using hxy
        have HN2 := hide (HN.out hxy)
        clear HS HN
        go_wp2
        go_quiet (fail)
        have X6 : Hid (Below w.heap.size w (wr.drewN nq)) := XV.out.trans ⟨rfl, rfl, rfl, Nat.le_refl _, fun _ _ => rfl⟩
        go_wp2
        go_ret
        exact ⟨NOT.out _ (fun h => HN2.out ⟨trivial, h⟩), X6.out⟩
    · have hk' : ¬ (k : Int) < (NA.length : Int) := by omega
      have HEN : Hid (NA = NB) := eq_upto HL1.out (fun i ha hb => HE.out i ha hb (by omega))
      clear kxA kxB koA koB HE
      go_wp2
      go_loopg [6] (OA.length + 1) (fun g x wr => ∃ k : Nat, x = .int .i64 (k : Nat) ∧ k ≤ OA.length ∧ Hid (Below w2.heap.size w2 wr) ∧ Hid (∀ i (ha : i < OA.length) (hb : i < OB.length), i < k → OA[i] = OB[i]) ∧ OA.length - k < g)
      case atStart => exact ⟨0, rfl, by omega, X, fun i _ _ h => by omega, by omega⟩
      case round =>
        clear hk' hk hk1
        obtain ⟨k, rfl, hk1, X', HE, hg⟩ := hrel
        have HG' := hide hg
        have XV' := hide (bt HX2.out X'.out (Nat.le_refl _))
        clear hg c0 c1 c2 d0 d1 d2 XV
        obtain ⟨⟨c0, c1, c2⟩, ⟨d0, d1, d2⟩, kxA, koA, kxB, koB⟩ := HC2.out _ X'.out
        by_cases hk : k < OA.length
        · have hk' : (k : Int) < (OA.length : Int) := by omega
          have hkB : k < OB.length := by have := HL2.out; omega
          obtain ⟨pa, oa, rfl, ca⟩ := koA.get hk
          obtain ⟨pb, ob, rfl, cb⟩ := koB.get hkB
          have HS : Hid (OA[k] = OB[k] → ∀ i (ha : i < OA.length) (hb : i < OB.length), i < k + 1 → OA[i] = OB[i]) := fun h i ha hb hik => by
            rcases Nat.lt_or_ge i k with h1 | h1
            · exact HE.out i ha hb h1
            · obtain rfl : i = k := by omega
              exact h
          have HN : Hid (¬ OA[k] = OB[k] → ¬ (bs = bs ∧ NA = NB ∧ OA = OB)) := fun h h' => h (by have := h'.2.2; subst this; rfl)
          clear kxA kxB koA koB HE
          generalize OA[k] = x at *
          generalize OB[k] = y at *
          by_cases hxy : x = y
          · subst hxy
            have bxy : (x != x) = false := by simp
            have HS2 := hide (HS.out rfl)
            clear HS HN
            go_wp2
            go_quiet (fail)
            have X6 : Hid (Below w2.heap.size w2 (World.drewN _ nq)) := X'.out.trans ⟨rfl, rfl, rfl, Nat.le_refl _, fun _ _ => rfl⟩
            go_wp2
            go_roundg (OA.length - (k + 1) + 1)
            case measure => have := HG'.out; omega
            case rel => exact ⟨k + 1, by first | rfl | go_num | (congr 1; omega), by omega, X6, HS2, by omega⟩
          · have bxy : (x != y) = true := by simpa using hxy
            have HN2 := hide (HN.out hxy)
            clear HS HN
            go_wp2
            go_quiet (fail)
            have X6 : Hid (Below w.heap.size w (World.drewN _ nq)) := XV'.out.trans ⟨rfl, rfl, rfl, Nat.le_refl _, fun _ _ => rfl⟩
            go_wp2
            go_ret
            exact ⟨NOT.out _ (fun h => HN2.out ⟨trivial, h⟩), X6.out⟩
        · have hk' : ¬ (k : Int) < (OA.length : Int) := by omega
          have HT : Hid (bs = bs ∧ NA = NB ∧ OA = OB) := ⟨rfl, HEN.out, eq_upto HL2.out (fun i ha hb => HE.out i ha hb (by omega))⟩
          clear kxA kxB koA koB HE
          go_wp2
          go_ret
          exact ⟨⟨true, rfl, ⟨fun _ => HT.out.2, fun _ => rfl⟩⟩, XV'.out⟩
end Go.Proofs.YtdgoilkgplnhfabGreat
