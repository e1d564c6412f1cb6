/-
  The document's Same, of any two automata of raw numbers: true just if they read alike. Condition: lists no longer than a process can hold.
-/
import Derived.Test.YtdgoilkgplnhfaaGreatC42
set_option maxRecDepth 100000
set_option maxHeartbeats 16000000
namespace Go.Proofs.YtdgoilkgplnhfaaGreat
open Go.RowKit Go.Lib
theorem eq_upto {A B : List Int} (hl : A.length = B.length) (h : ∀ i (ha : i < A.length) (hb : i < B.length), A[i] = B[i]) : A = B := List.ext_getElem hl h
theorem sameZ_any (bs cs : By) (xA oA xB oB : Option Addr) (xAc oAc xBc oBc : Nat) (NA OA NB OB : List Int) (w : World) (hn : NA.length ≤ 140737488351232) (ho : OA.length ≤ 140737488351232) (h1 : ZAt w xA NA) (h2 : ZAt w oA OA) (h3 : ZAt w xB NB) (h4 : ZAt w oB OB) :
 Calls Tryz.prog 14 #[auV bs xA NA.length xAc oA OA.length oAc, auV cs xB NB.length xBc oB OB.length oBc] w fun e w' => TellsB (bs = cs ∧ NA = NB ∧ OA = OB) e ∧ Below w.heap.size w w' := by
 obtain ⟨w2, hw2⟩ : ∃ w2, w2 = (w.alloc (.cells #[.string ⟨bs.toArray⟩, .slice xA NA.length xAc, .slice oA OA.length oAc] 24)).alloc (.cells #[.string ⟨cs.toArray⟩, .slice xB NB.length xBc, .slice oB OB.length oBc] 24) := ⟨_, rfl⟩
 obtain ⟨X2, B1, B2, hs2⟩ := two_alloc' w #[.string ⟨bs.toArray⟩, .slice xA NA.length xAc, .slice oA OA.length oAc] #[.string ⟨cs.toArray⟩, .slice xB NB.length xBc, .slice oB OB.length oBc] 24 24
 rw [← hw2] at X2 B1 B2 hs2
 have HC : Hid (∀ V, Below w2.heap.size w2 V → (V.cell? ⟨w.heap.size, 0, none⟩ = some (.string ⟨bs.toArray⟩) ∧ V.cell? ⟨w.heap.size, 1, none⟩ = some (.slice xA NA.length xAc) ∧ V.cell? ⟨w.heap.size, 2, none⟩ = some (.slice oA OA.length oAc)) ∧ (V.cell? ⟨w.heap.size + 1, 0, none⟩ = some (.string ⟨cs.toArray⟩) ∧ V.cell? ⟨w.heap.size + 1, 1, none⟩ = some (.slice xB NB.length xBc) ∧ V.cell? ⟨w.heap.size + 1, 2, none⟩ = some (.slice oB OB.length oBc)) ∧ ZAt V xA NA ∧ ZAt V oA OA ∧ ZAt V xB NB ∧ ZAt V oB OB) := fun V x => by
  have Bv := (x.block _ (lt_of_block B1)).trans B1
  have Bw := (x.block _ (lt_of_block B2)).trans B2
  have y := bt X2 x (Nat.le_refl _)
  exact ⟨⟨by rw [cell_of_row _ _ _ _ _ _ Bv]; rfl, by rw [cell_of_row _ _ _ _ _ _ Bv]; rfl, by rw [cell_of_row _ _ _ _ _ _ Bv]; rfl⟩, ⟨by rw [cell_of_row _ _ _ _ _ _ Bw]; rfl, by rw [cell_of_row _ _ _ _ _ _ Bw]; rfl, by rw [cell_of_row _ _ _ _ _ _ Bw]; rfl⟩, h1.below y, h2.below y, h3.below y, h4.below y⟩
 have HX2 := hide X2
 have NOT : Hid (∀ P : Prop, ¬ P → TellsB P (.returned (.bool false))) := fun P h => ⟨false, rfl, by simp [h]⟩
 obtain ⟨⟨c0, c1, c2⟩, ⟨d0, d1, d2⟩, _⟩ := HC.out w2 (Below.refl _ _)
 clear X2 B1 B2 hs2 h1 h2 h3 h4
 unfold auV
 go_enter Tryz.func14, Tryz.ntmps14
 go_upto_region 1 with fail
 rw [← hw2]
 clear hw2
 by_cases hb : bs = cs
 case neg =>
  have hsn : ¬ (⟨bs.toArray⟩ : ByteArray) = ⟨cs.toArray⟩ := fun e => hb (by injection e with e; simpa using congrArg Array.toList e)
  have HN : Hid (¬ (bs = cs ∧ NA = NB ∧ OA = OB)) := fun h => hb h.1
  go_wp2
  go_ret
  exact ⟨NOT.out _ HN.out, HX2.out⟩
 subst hb
 by_cases hl1 : NA.length = NB.length
 case neg =>
  have b1 : ((NA.length : Int) != (NB.length : Int)) = true := by simp; omega
  have HN : Hid (¬ (bs = bs ∧ NA = NB ∧ OA = OB)) := fun h => hl1 (by rw [h.2.1])
  go_wp2
  go_ret
  exact ⟨NOT.out _ (fun h => HN.out ⟨trivial, h⟩), HX2.out⟩
 by_cases hl2 : OA.length = OB.length
 case neg =>
  have b1 : ((NA.length : Int) != (NB.length : Int)) = false := by simp; omega
  have b2 : ((OA.length : Int) != (OB.length : Int)) = true := by simp; omega
  have HN : Hid (¬ (bs = bs ∧ NA = NB ∧ OA = OB)) := fun h => hl2 (by rw [h.2.2])
  go_wp2
  go_ret
  exact ⟨NOT.out _ (fun h => HN.out ⟨trivial, h⟩), HX2.out⟩
 have HL1 := hide hl1
 have HL2 := hide hl2
 rw [← hl1] at d1
 rw [← hl2] at d2
 have HC2 : Hid (∀ V, Below w2.heap.size w2 V → (V.cell? ⟨w.heap.size, 0, none⟩ = some (.string ⟨bs.toArray⟩) ∧ V.cell? ⟨w.heap.size, 1, none⟩ = some (.slice xA NA.length xAc) ∧ V.cell? ⟨w.heap.size, 2, none⟩ = some (.slice oA OA.length oAc)) ∧ (V.cell? ⟨w.heap.size + 1, 0, none⟩ = some (.string ⟨bs.toArray⟩) ∧ V.cell? ⟨w.heap.size + 1, 1, none⟩ = some (.slice xB NA.length xBc) ∧ V.cell? ⟨w.heap.size + 1, 2, none⟩ = some (.slice oB OA.length oBc)) ∧ ZAt V xA NA ∧ ZAt V oA OA ∧ ZAt V xB NB ∧ ZAt V oB OB) := fun V x => by
  have := HC.out V x
  rw [← HL1.out, ← HL2.out] at this
  exact this
 clear hl1 hl2 HC
 go_wp2
 go_loopg [5] (NA.length + 1) (fun g x wr => ∃ k : Nat, x = .int .i64 (k : Nat) ∧ k ≤ NA.length ∧ Hid (Below w2.heap.size w2 wr) ∧ Hid (∀ i (ha : i < NA.length) (hb : i < NB.length), i < k → NA[i] = NB[i]) ∧ NA.length - k < g)
 case atStart => exact ⟨0, rfl, by omega, Below.refl _ _, fun i _ _ h => by omega, by omega⟩
 case round =>
  obtain ⟨k, rfl, hk1, X, HE, hg⟩ := hrel
  have HG := hide hg
  have XV := hide (bt HX2.out X.out (Nat.le_refl _))
  clear hg c0 c1 c2 d0 d1 d2
  obtain ⟨⟨c0, c1, c2⟩, ⟨d0, d1, d2⟩, kxA, koA, kxB, koB⟩ := HC2.out wr X.out
  by_cases hk : k < NA.length
  · have hk' : (k : Int) < (NA.length : Int) := by omega
    have hkB : k < NB.length := by have := HL1.out; omega
    obtain ⟨pa, oa, rfl, ca⟩ := kxA.get hk
    obtain ⟨pb, ob, rfl, cb⟩ := kxB.get hkB
    have HS : Hid (NA[k] = NB[k] → ∀ i (ha : i < NA.length) (hb : i < NB.length), i < k + 1 → NA[i] = NB[i]) := fun h i ha hb hik => by
     rcases Nat.lt_or_ge i k with h1 | h1
     · exact HE.out i ha hb h1
     · obtain rfl : i = k := by omega
       exact h
    have HN : Hid (¬ NA[k] = NB[k] → ¬ (bs = bs ∧ NA = NB ∧ OA = OB)) := fun h h' => h (by have := h'.2.1; subst this; rfl)
    clear kxA kxB koA koB HE
    generalize NA[k] = x at *
    generalize NB[k] = y at *
    by_cases hxy : x = y
    · subst hxy
      have bxy : (x != x) = false := by simp
      have HS2 := hide (HS.out rfl)
      clear HS HN
      go_wp2
      go_quiet (fail)
      have X6 : Hid (Below w2.heap.size w2 (wr.drewN nq)) := X.out.trans ⟨rfl, rfl, rfl, Nat.le_refl _, fun _ _ => rfl⟩
      go_wp2
      go_roundg (NA.length - (k + 1) + 1)
      case measure => have := HG.out; omega
      case rel => exact ⟨k + 1, by first | rfl | go_num | (congr 1; omega), by omega, X6, HS2, by omega⟩
    · have bxy : (x != y) = true := by simpa using hxy
      have HN2 := hide (HN.out hxy)
      clear HS HN
      go_wp2
      go_quiet (fail)
      have X6 : Hid (Below w.heap.size w (wr.drewN nq)) := XV.out.trans ⟨rfl, rfl, rfl, Nat.le_refl _, fun _ _ => rfl⟩
      go_wp2
      go_ret
      exact ⟨NOT.out _ (fun h => HN2.out ⟨trivial, h⟩), X6.out⟩
  · have hk' : ¬ (k : Int) < (NA.length : Int) := by omega
    have HEN : Hid (NA = NB) := eq_upto HL1.out (fun i ha hb => HE.out i ha hb (by omega))
    clear kxA kxB koA koB HE
    go_wp2
    go_loopg [6] (OA.length + 1) (fun g x wr => ∃ k : Nat, x = .int .i64 (k : Nat) ∧ k ≤ OA.length ∧ Hid (Below w2.heap.size w2 wr) ∧ Hid (∀ i (ha : i < OA.length) (hb : i < OB.length), i < k → OA[i] = OB[i]) ∧ OA.length - k < g)
    case atStart => exact ⟨0, rfl, by omega, X, fun i _ _ h => by omega, by omega⟩
    case round =>
     clear hk' hk hk1
     obtain ⟨k, rfl, hk1, X', HE, hg⟩ := hrel
     have HG' := hide hg
     have XV' := hide (bt HX2.out X'.out (Nat.le_refl _))
     clear hg c0 c1 c2 d0 d1 d2 XV
     obtain ⟨⟨c0, c1, c2⟩, ⟨d0, d1, d2⟩, kxA, koA, kxB, koB⟩ := HC2.out _ X'.out
     by_cases hk : k < OA.length
     · have hk' : (k : Int) < (OA.length : Int) := by omega
       have hkB : k < OB.length := by have := HL2.out; omega
       obtain ⟨pa, oa, rfl, ca⟩ := koA.get hk
       obtain ⟨pb, ob, rfl, cb⟩ := koB.get hkB
       have HS : Hid (OA[k] = OB[k] → ∀ i (ha : i < OA.length) (hb : i < OB.length), i < k + 1 → OA[i] = OB[i]) := fun h i ha hb hik => by
        rcases Nat.lt_or_ge i k with h1 | h1
        · exact HE.out i ha hb h1
        · obtain rfl : i = k := by omega
          exact h
       have HN : Hid (¬ OA[k] = OB[k] → ¬ (bs = bs ∧ NA = NB ∧ OA = OB)) := fun h h' => h (by have := h'.2.2; subst this; rfl)
       clear kxA kxB koA koB HE
       generalize OA[k] = x at *
       generalize OB[k] = y at *
       by_cases hxy : x = y
       · subst hxy
         have bxy : (x != x) = false := by simp
         have HS2 := hide (HS.out rfl)
         clear HS HN
         go_wp2
         go_quiet (fail)
         have X6 : Hid (Below w2.heap.size w2 (World.drewN _ nq)) := X'.out.trans ⟨rfl, rfl, rfl, Nat.le_refl _, fun _ _ => rfl⟩
         go_wp2
         go_roundg (OA.length - (k + 1) + 1)
         case measure => have := HG'.out; omega
         case rel => exact ⟨k + 1, by first | rfl | go_num | (congr 1; omega), by omega, X6, HS2, by omega⟩
       · have bxy : (x != y) = true := by simpa using hxy
         have HN2 := hide (HN.out hxy)
         clear HS HN
         go_wp2
         go_quiet (fail)
         have X6 : Hid (Below w.heap.size w (World.drewN _ nq)) := XV'.out.trans ⟨rfl, rfl, rfl, Nat.le_refl _, fun _ _ => rfl⟩
         go_wp2
         go_ret
         exact ⟨NOT.out _ (fun h => HN2.out ⟨trivial, h⟩), X6.out⟩
     · have hk' : ¬ (k : Int) < (OA.length : Int) := by omega
       have HT : Hid (bs = bs ∧ NA = NB ∧ OA = OB) := ⟨rfl, HEN.out, eq_upto HL2.out (fun i ha hb => HE.out i ha hb (by omega))⟩
       clear kxA kxB koA koB HE
       go_wp2
       go_ret
       exact ⟨⟨true, rfl, ⟨fun _ => HT.out.2, fun _ => rfl⟩⟩, XV'.out⟩

section
variable {P : Program} {ops : Array Oper} {Q : Exit → Act → World → Prop} {md : Region.Mode} {S : World → Prop} {z : Nat}
end
def zC (L : List Int) : List Value := L.map fun z => Value.int .i64 z
theorem nC_zC (L : List Nat) : nCells L = zC (zN L) := by simp [nCells, zC, zN]
structure LeO (w : World) (base : Nat) (xv ov : Value) (A B : List Int) : Prop where
 ox : w.ownsRow base 3 1 xv A.length (zC A)
 oo : w.ownsRow base 3 1 ov B.length (zC B)
 ap : ∀ b, xv.ownBlock = some b → ¬ ov.ownBlock = some b
theorem LeO.below {w w' : World} {base : Nat} {xv ov : Value} {A B : List Int} (h : LeO w base xv ov A B) (x : Below w.heap.size w w') : LeO w' base xv ov A B := ⟨own_below h.ox x, own_below h.oo x, h.ap⟩
theorem row_mono {w : World} {base base' n : Nat} {e : TypeId} {v : Value} {xs : List Value} (h : w.ownsRow base e 1 v n xs) (hb : base' ≤ base) : w.ownsRow base' e 1 v n xs := by
 rcases h.2 with h2 | ⟨g, c, cur, e1, h3, h4⟩
 · exact ⟨h.1, .inl h2⟩
 · exact ⟨h.1, .inr ⟨g, c, cur, e1, Nat.le_trans hb h3, h4⟩⟩
theorem LeO.mono {w : World} {base base' : Nat} {xv ov : Value} {A B : List Int} (h : LeO w base xv ov A B) (hb : base' ≤ base) : LeO w base' xv ov A B := ⟨row_mono h.ox hb, row_mono h.oo hb, h.ap⟩
theorem own_z {w : World} {base n cap : Nat} {ao : Option Addr} {A : List Int} (h : w.ownsRow base 3 1 (.slice ao n cap) A.length (zC A)) : ZAt w ao A := by
 rcases h.2 with ⟨e, e2⟩ | ⟨g, c', cur, e, hb, hg, hnc, hcm, hcs, htake⟩
 · exact .inl (List.length_eq_zero_iff.1 e2)
 · have e' := e
   injection e' with e1 e2 e3
   subst e1
   refine .inr ⟨g, 0, rfl, lt_of_block hg, fun i hi => ?_⟩
   have hn : n = A.length := e2
   subst hn
   rw [Nat.zero_add, h.cellAt i (by omega)]
   simp [zC, hi]
structure At3 (w : World) (p : Nat) (c : By) (xv ov : Value) : Prop where
 lt : p < w.heap.size
 c0 : w.cell? ⟨p, 0, none⟩ = some (.string ⟨c.toArray⟩)
 c1 : w.cell? ⟨p, 1, none⟩ = some xv
 c2 : w.cell? ⟨p, 2, none⟩ = some ov
theorem At3.below {w w' : World} {p : Nat} {c : By} {xv ov : Value} (h : At3 w p c xv ov) (x : Below w.heap.size w w') : At3 w' p c xv ov :=
 ⟨Nat.lt_of_lt_of_le h.lt x.size, (x.cell (p := ⟨p, 0, none⟩) h.lt).trans h.c0, (x.cell (p := ⟨p, 1, none⟩) h.lt).trans h.c1, (x.cell (p := ⟨p, 2, none⟩) h.lt).trans h.c2⟩
theorem At3.block {w : World} {p : Nat} {c : By} {xv ov : Value} (h : w.heap[p]? = some (.cells #[.string ⟨c.toArray⟩, xv, ov] 24 (0, 0))) : At3 w p c xv ov :=
 ⟨lt_of_block h, by rw [cell_of_row _ _ _ _ _ _ h]; rfl, by rw [cell_of_row _ _ _ _ _ _ h]; rfl, by rw [cell_of_row _ _ _ _ _ _ h]; rfl⟩
theorem At3.new (w : World) (c : By) (xv ov : Value) : At3 (w.alloc (.cells #[.string ⟨c.toArray⟩, xv, ov] 24)) w.heap.size c xv ov := At3.block (heap_alloc_new w _)
theorem OfP.form (L : List Pc) : ∃ (cs : By) (A B : List Int) (m : Int), A.length ≤ 4294967296 ∧ B.length ≤ 4294967296 ∧ ∀ base e w, OfP L base e w → ∃ (xa : Option Addr) (xc : Nat) (oa : Option Addr) (oc : Nat), e = .returned (.tuple #[.agg #[.string ⟨cs.toArray⟩, .slice xa A.length xc, .slice oa B.length oc], .int .i64 m]) ∧ LeO w base (.slice xa A.length xc) (.slice oa B.length oc) A B := by
 have hnil : ∀ (w : World) (base : Nat), LeO w base (.slice none 0 0) (.slice none 0 0) [] [] := fun w base => ⟨World.ownsRow_nil w base 3 1, World.ownsRow_nil w base 3 1, fun b hb => by cases hb⟩
 by_cases hR : Rt L
 · by_cases hN : OfMany L
   · refine ⟨[], [], [], 2, by simp, by simp, fun base e w h => ?_⟩
     rcases h with ⟨hno, _⟩ | ⟨_, _, rfl⟩ | ⟨_, hF, _⟩
     · exact absurd hR hno
     · exact ⟨none, 0, none, 0, rfl, hnil w base⟩
     · exact (few_not_many hF hN).elim
   · by_cases hD : ∃ (bs : By) (NX OU : List Nat), MayA bs NX OU ∧ (dfA bs NX OU).Right ∧ OU.length ≤ 256 ∧ ∀ t : By, (dfA bs NX OU).lab 0 (ntL t) = if mtF L t L.length then 1 else 0
     · obtain ⟨bs0, A0, B0, hM0, hT0, hn0, hl0⟩ := hD
       have hA : A0.length ≤ 16777216 := hM0.nxl
       refine ⟨bs0, zN A0, zN B0, 0, by rw [zN_len]; omega, by rw [zN_len]; omega, fun base e w h => ?_⟩
       rcases h with ⟨hno, _⟩ | ⟨_, hm, _⟩ | ⟨_, _, bs', xa, xn, xc, oa, on, oc, A, B, rfl, hw, hM, hT, hn, hl⟩
       · exact absurd hR hno
       · exact absurd hm hN
       · obtain ⟨rfl, rfl, rfl⟩ := one_lists hM0 hM hT0 hT (fun t ht => by
          have h1 := hl0 (btOf t)
          have h2 := hl (btOf t)
          rw [txt_nt ht] at h1 h2
          rw [h1, h2])
         obtain rfl : xn = A0.length := hw.shape (j := 0) (by simp) rfl
         obtain rfl : on = B0.length := hw.shape (j := 1) (by simp) rfl
         have o0 : w.ownsRow base 3 1 (.slice xa A0.length xc) A0.length (nCells A0) := hw.own 0 (by simp)
         have o1 : w.ownsRow base 3 1 (.slice oa B0.length oc) B0.length (nCells B0) := hw.own 1 (by simp)
         refine ⟨xa, xc, oa, oc, by rw [zN_len, zN_len]; rfl, ?_⟩
         rw [nC_zC] at o0 o1
         rw [zN_len, zN_len]
         exact ⟨by rw [zN_len]; exact o0, by rw [zN_len]; exact o1, fun b h1 h2 => hw.ap 0 (by simp) 1 (by simp) (by decide) b h1 h2⟩
     · refine ⟨[], [], [], 0, by simp, by simp, fun base e w h => ?_⟩
       rcases h with ⟨hno, _⟩ | ⟨_, hm, _⟩ | ⟨_, _, bs', xa, xn, xc, oa, on, oc, A, B, _, _, hM, hT, hn, hl⟩
       · exact absurd hR hno
       · exact absurd hm hN
       · exact absurd ⟨bs', A, B, hM, hT, hn, hl⟩ hD
 · refine ⟨[], [], [], 1, by simp, by simp, fun base e w h => ?_⟩
   rcases h with ⟨_, rfl⟩ | ⟨h1, _⟩ | ⟨h1, _⟩
   · exact ⟨none, 0, none, 0, rfl, hnil w base⟩
   · exact absurd h1 hR
   · exact absurd h1 hR
def BAt (w : World) (ao : Option Addr) (L : List Bool) : Prop := L = [] ∨ ∃ b off, ao = some ⟨b, off, none⟩ ∧ ∀ i, i < L.length → w.cell? ⟨b, off + i, none⟩ = some (.bool (gB L i))
theorem BAt.get {w : World} {ao : Option Addr} {L : List Bool} (h : BAt w ao L) {i : Nat} (hi : i < L.length) : ∃ b off, ao = some ⟨b, off, none⟩ ∧ True ∧ True := by
 rcases h with rfl | ⟨b, off, e, h⟩
 · simp at hi
 · exact ⟨b, off, e, trivial, trivial⟩
theorem BAt.atG {w : World} {b off : Nat} {L : List Bool} (h : BAt w (some ⟨b, off, none⟩) L) {i : Nat} (hi : i < L.length) : w.cell? ⟨b, off + i, none⟩ = some (.bool (gB L i)) := by
 rcases h with rfl | ⟨b', off', e, h⟩
 · simp at hi
 · injection e with e
   injection e with e1 e2
   subst e1 e2
   exact h i hi
def RbAt (w : World) (ra : Option Addr) (R : List (List Bool)) : Prop := R = [] ∨ ∃ b off, ra = some ⟨b, off, none⟩ ∧ ∀ i (h : i < R.length), ∃ a cap, w.cell? ⟨b, off + i, none⟩ = some (.slice a (R[i]).length cap) ∧ BAt w a (R[i])
theorem RbAt.get {w : World} {ra : Option Addr} {R : List (List Bool)} (h : RbAt w ra R) {i : Nat} (hi : i < R.length) : ∃ b off a cap, ra = some ⟨b, off, none⟩ ∧ w.cell? ⟨b, off + i, none⟩ = some (.slice a (R[i]).length cap) ∧ BAt w a (R[i]) := by
 rcases h with rfl | ⟨b, off, e, h⟩
 · simp at hi
 · obtain ⟨a, cap, h1, h2⟩ := h i hi
   exact ⟨b, off, a, cap, e, h1, h2⟩
theorem rowB_same {A B : List Bool} (hl : A.length = B.length) (h : ∀ k, k < B.length → gB A k = gB B k) : A = B := by
 refine List.ext_getElem hl (fun i h1 h2 => ?_)
 rw [← gB_lt h1, ← gB_lt h2]; exact h i h2
theorem whrD_any (ra va : Option Addr) (rc vc : Nat) (R : List (List Bool)) (L : List Bool) (w : World) (hRl : R.length ≤ 256) (hll : L.length ≤ 256) (hm : ∀ i (h : i < R.length), (R[i]).length = L.length) (hR : ∀ n, RbAt (w.drewN n) ra R) (hL : ∀ n, BAt (w.drewN n) va L) :
 Calls Tryz.prog 52 #[.slice ra R.length rc, .slice va L.length vc] w fun e w' => (∃ p : Nat, e = .returned (.int .i64 (p : Nat)) ∧ p ≤ R.length ∧ (∀ j, j < p → R.getD j [] ≠ L) ∧ (p < R.length → R.getD p [] = L)) ∧ ∃ n, w' = w.drewN n := by
 have HR := hide hR
 have HL := hide hL
 have HM := hide hm
 clear hR hL hm
 go_enter Tryz.func52, Tryz.ntmps52
 go_wp2
 go_loopg [5] (R.length + 1) (fun g x wr => ∃ i : Nat, x = .int .i64 (i : Nat) ∧ i ≤ R.length ∧ Hid (∀ j, j < i → R.getD j [] ≠ L) ∧ Hid (∃ n, wr = w.drewN n) ∧ R.length - i < g)
 case atStart => exact ⟨0, rfl, by omega, fun j hj => by omega, ⟨0, rfl⟩, by omega⟩
 case round =>
  obtain ⟨i, rfl, hi1, HN, HD, hg⟩ := hrel
  have HG := hide hg
  clear hg
  by_cases hi : i < R.length
  · have hi' : (i : Int) < (R.length : Int) := by omega
    go_wp2
    go_loopg [6, 7] (L.length + 1) (fun g x y wr => ∃ (k : Nat) (b : Bool), y = .int .i64 (k : Nat) ∧ k ≤ L.length ∧ x = .bool b ∧ Hid (b = true → ∀ p, p < k → gB (R.getD i []) p = gB L p) ∧ Hid (b = false → R.getD i [] ≠ L) ∧ Hid (∃ n, wr = w.drewN n) ∧ L.length - k < g)
    case atStart => exact ⟨0, true, rfl, by omega, rfl, (fun _ p hp => by omega), (fun h => by cases h), HD, by omega⟩
    case round =>
     clear HD
     obtain ⟨k, b, rfl, hk1, rfl, HB, HF, HD, hg⟩ := hrel
     have HG2 := hide hg
     clear hg
     by_cases hk : k < L.length
     · have hk' : (k : Int) < (L.length : Int) := by omega
       cases b with
       | false =>
         have HN2 : Hid (∀ j, j < i + 1 → R.getD j [] ≠ L) := fun j hj => by
          rcases Nat.lt_or_ge j i with h | h
          · exact HN.out j h
          · rw [show j = i by omega]; exact HF.out rfl
         go_wp2
         go_roundg (R.length - (i + 1) + 1)
         case measure => have := HG.out; omega
         case rel => exact ⟨i + 1, by first | rfl | go_num | (congr 1; omega), by omega, HN2, HD, by omega⟩
       | true =>
         obtain ⟨n0, hn0⟩ := HD.out
         have kr := HR.out n0
         have kl := HL.out n0
         rw [← hn0] at kr kl
         obtain ⟨rb, roff, a, cap, rfl, sr, ka⟩ := kr.get hi
         have hml := HM.out i hi
         rw [hml] at sr
         have hki : k < (R[i]).length := by omega
         obtain ⟨ab, aoff, rfl, -, -⟩ := ka.get hki
         have sa := ka.atG hki
         obtain ⟨lb, loff, rfl, -, -⟩ := kl.get hk
         have sl := kl.atG hk
         have eR : R.getD i [] = R[i] := by simp [List.getD_eq_getElem?_getD, hi]
         have HEQ : Hid (gB R[i] k = gB L k → ∀ p, p < k + 1 → gB (R.getD i []) p = gB L p) := fun h p hp => by
          rcases Nat.lt_or_ge p k with h1 | h1
          · exact HB.out rfl p h1
          · rw [show p = k by omega, eR]; exact h
         have HNE : Hid (¬ gB R[i] k = gB L k → R.getD i [] ≠ L) := fun h e => by
          rw [eR] at e
          exact h (by rw [e])
         clear kr kl ka eR hml HB HF HD
         generalize gB R[i] k = x at *
         generalize gB L k = y at *
         have HDN : Hid (∀ nq, ∃ n, wr.drewN nq = w.drewN n) := fun nq => by
          rw [hn0]
          exact ⟨n0 + nq, by unfold World.drewN; simp only [Nat.add_assoc]⟩
         clear hn0
         by_cases hxy : x = y
         · subst hxy
           have HB2 := hide (HEQ.out rfl)
           clear HEQ HNE
           go_wp2
           go_quiet (fail)
           have HD2 : Hid (∃ n, wr.drewN nq = w.drewN n) := HDN.out nq
           go_wp2
           go_roundg (L.length - (k + 1) + 1)
           case measure => have := HG2.out; omega
           case rel => exact ⟨k + 1, true, by first | rfl | go_num | (congr 1; omega), by omega, by first | rfl | simp, (fun _ => HB2.out), (fun h => by cases h), HD2, by omega⟩
         · have HF2 := hide (HNE.out hxy)
           have hxy2 : (x == y) = false := by simpa using hxy
           clear HEQ HNE
           go_wp2
           go_quiet (fail)
           have HD2 : Hid (∃ n, wr.drewN nq = w.drewN n) := HDN.out nq
           go_wp2
           go_roundg (L.length - (k + 1) + 1)
           case measure => have := HG2.out; omega
           case rel => exact ⟨k + 1, false, by first | rfl | go_num | (congr 1; omega), by omega, by first | rfl | simp [hxy2], (fun h => by cases h), (fun _ => HF2.out), HD2, by omega⟩
     · obtain rfl : k = L.length := by omega
       have hk' : ¬ (L.length : Int) < (L.length : Int) := by omega
       cases b with
       | false =>
         have HN2 : Hid (∀ j, j < i + 1 → R.getD j [] ≠ L) := fun j hj => by
          rcases Nat.lt_or_ge j i with h | h
          · exact HN.out j h
          · rw [show j = i by omega]; exact HF.out rfl
         go_wp2
         go_roundg (R.length - (i + 1) + 1)
         case measure => have := HG.out; omega
         case rel => exact ⟨i + 1, by first | rfl | go_num | (congr 1; omega), by omega, HN2, HD, by omega⟩
       | true =>
         have HFD : Hid (R.getD i [] = L) := by
          have eR : R.getD i [] = R[i] := by simp [List.getD_eq_getElem?_getD, hi]
          exact rowB_same (by rw [eR]; exact HM.out i hi) (HB.out rfl)
         go_wp2
         go_ret
         exact ⟨⟨i, rfl, hi1, HN.out, fun _ => HFD.out⟩, HD.out⟩
  · obtain rfl : i = R.length := by omega
    have hi' : ¬ (R.length : Int) < (R.length : Int) := by omega
    go_wp2
    go_ret
    exact ⟨⟨R.length, rfl, Nat.le_refl _, HN.out, fun h => by omega⟩, HD.out⟩
theorem afF_hi {L : List Pc} {f : Nat → Bool} {b : Int} : ∀ (n : Nat) {i : Nat}, n < i → afF L f b n i = false
 | 0, _, _ => rfl
 | n + 1, i, h => by
   have ih := afF_hi (L := L) (f := f) (b := b) n (i := i) (by omega)
   unfold afF
   split
   · split
     · unfold upd; rw [if_neg (by omega)]; exact ih
     · unfold upd; rw [if_neg (by omega)]; exact ih
   · exact ih
theorem clF_hi {L : List Pc} {f : Nat → Bool} : ∀ (n : Nat) {i : Nat}, n < i → clF L f n i = f i
 | 0, _, _ => rfl
 | n + 1, i, h => by
   have ih := clF_hi (L := L) (f := f) n (i := i) (by omega)
   unfold clF
   split
   · unfold upd; rw [if_neg (by omega)]; exact ih
   · exact ih
def Vd (n : Nat) (B : List Bool) : Prop := B.length = 65 ∧ ∀ i, n < i → plF B i = false
theorem Vd.pl {n : Nat} {f : Nat → Bool} (h : ∀ i, n < i → f i = false) : Vd n (plL f) := ⟨plL_len f, fun i hi => by
 by_cases h65 : i < 65
 · rw [plF_plL f h65]; exact h i hi
 · unfold plF
   rw [List.getD_eq_getElem?_getD, List.getElem?_eq_none (by rw [plL_len]; omega)]
   rfl⟩
theorem Vd.z (L : List Pc) : Vd L.length (plZ L) := Vd.pl (fun i hi => by rw [clF_hi _ hi]; unfold upd; rw [if_neg (by omega)])
theorem Vd.s (L : List Pc) (B : List Bool) (b : Nat) : Vd L.length (plS L B b) := Vd.pl (fun i hi => by unfold stF; rw [clF_hi _ hi, afF_hi _ hi])
theorem Vd.inj {n : Nat} {A B : List Bool} (ha : Vd n A) (hb : Vd n B) (h : A.take (n + 1) = B.take (n + 1)) : A = B := by
 refine List.ext_getElem (by rw [ha.1, hb.1]) (fun i h1 h2 => ?_)
 by_cases hi : i < n + 1
 · have e := congrArg (fun l : List Bool => l[i]?) h
   simp only [List.getElem?_take, if_pos hi] at e
   rw [List.getElem?_eq_getElem h1, List.getElem?_eq_getElem h2] at e
   exact Option.some.inj e
 · have e1 := ha.2 i (by omega)
   have e2 := hb.2 i (by omega)
   unfold plF at e1 e2
   rw [List.getD_eq_getElem?_getD, List.getElem?_eq_getElem h1] at e1
   rw [List.getD_eq_getElem?_getD, List.getElem?_eq_getElem h2] at e2
   exact e1.trans e2.symm
def bsI : By := btOf (List.range 256)
theorem bsI_len : bsI.length = 256 := by simp [bsI, btOf]
theorem bsI_get {b : Nat} (hb : b < 256) : (bsI.getD b 0).toNat = b := by
 unfold bsI
 rw [bt_get (fun x hx => List.mem_range.1 hx) (by rw [List.length_range]; exact hb), gN_lt (by rw [List.length_range]; exact hb), List.getElem_range]
section
variable {L : List Pc} {St : List (List Bool)} {NX : List Nat} {i j : Nat}
theorem ExS.vd (h : ExS (plZ L) (plS L) 256 St NX i j) : ∀ a, a < St.length → Vd L.length (gS (plZ L) St a) := fun a ha => by
 obtain ⟨u, _, e⟩ := h.rch a ha
 rw [← e]
 clear e
 have key : ∀ (u : List Nat) (B : List Bool), Vd L.length B → Vd L.length (u.foldl (plS L) B) := by
  intro u
  induction u with
  | nil => intro B h; exact h
  | cons b u ih => intro B _; exact ih _ (Vd.s L B b)
 exact key u _ (Vd.z L)
theorem ofD_may (hE : ExD (plZ L) (plS L) 256 St NX) (hS : St.length ≤ 256) (n : Nat) : MayA bsI NX (ofO n St) := by
 refine hE.may (by decide) (by decide) (ofO_len _ _) (by omega) bsI_len (fun b hb => by rw [bsI_get hb]; exact hb) (fun x hx => ?_)
 unfold ofO at hx
 obtain ⟨B, _, rfl⟩ := List.mem_map.1 hx
 split <;> omega
theorem ofD_run (hl : L.length ≤ 64) (hE : ExD (plZ L) (plS L) 256 St NX) (n : Nat) (t : By) : (dfA bsI NX (ofO n St)).run 0 (ntL t) < St.length ∧ gS (plZ L) St ((dfA bsI NX (ofO n St)).run 0 (ntL t)) = plL (mtF L t) := by
 obtain ⟨h1, h2⟩ := hE.run (bs := bsI) (OU := ofO n St) (by decide) (ofO_len _ _) (fun b hb => by rw [bsI_get hb]; exact hb) hE.s0.1 (ntL_txt t)
 refine ⟨h1, ?_⟩
 rw [h2, hE.s0.2]
 have e1 : ∀ (u : List Nat) (B : List Bool), Txt u → u.foldl (fun x b => plS L x (bsI.getD b 0).toNat) B = u.foldl (plS L) B := by
  intro u
  induction u with
  | nil => intro _ _; rfl
  | cons b u ih =>
    intro B hu
    rw [List.foldl_cons, List.foldl_cons, bsI_get hu.tail.1]
    exact ih _ hu.tail.2
 rw [e1 _ _ (ntL_txt t)]
 exact mtF_pl hl t _
theorem ofD_lab (hl : L.length ≤ 64) (hE : ExD (plZ L) (plS L) 256 St NX) (t : By) : (dfA bsI NX (ofO L.length St)).lab 0 (ntL t) = if mtF L t L.length then 1 else 0 := by
 obtain ⟨h1, h2⟩ := ofD_run hl hE L.length t
 show ((gN (ofO L.length St) _ : Nat) : Int) = _
 rw [ofO_get L.length St (z := plZ L) h1, h2, plF_plL _ (by omega)]
 split <;> rfl
theorem ofD_few (hl : L.length ≤ 64) (hE : ExD (plZ L) (plS L) 256 St NX) (hS : St.length ≤ 256) : OfFew L :=
 ⟨St, hS, fun t => ⟨_, ofD_run hl hE L.length t⟩⟩
theorem ofD_many (hl : L.length ≤ 64) (h : ExMany (plZ L) (plS L) 256) : OfMany L := by
 obtain ⟨B, h1, h2, h3⟩ := h
 refine ⟨B, h1, fun a ha b hb e => h2 a (by omega) b (by omega) e, fun a ha => ?_⟩
 obtain ⟨u, hu, e⟩ := h3 a (by omega)
 refine ⟨btOf u, ?_⟩
 rw [← e, ← plS_run hl (t := u) (fun c hc => hu c hc)]
theorem ofD_done {base : Nat} {e : Ending} {w : World} (hl : L.length ≤ 64) (hR : Rt L) (hE : ExD (plZ L) (plS L) 256 St NX) (hS : St.length ≤ 256) (h : OneP bsI NX (ofO L.length St) base e w) : OfP L base e w := by
 rcases h with ⟨bs', xa, xn, xc, oa, on, oc, rfl, NX', OU', d⟩ | ⟨_, hno⟩
 · exact .inr (.inr ⟨hR, ofD_few hl hE hS, bs', xa, xn, xc, oa, on, oc, NX', OU', rfl, d.rws, d.may, d.rt, d.n, fun t => by rw [d.lb _ (ntL_txt t), ofD_lab hl hE t]⟩)
 · have := hno _ (ofD_may hE hS L.length).ok (fun t _ => rfl)
   have h9 : 257 ≤ (ofO L.length St).length := this
   rw [ofO_len] at h9
   omega
end
theorem refRight_any (ao : Option Addr) (cap : Nat) (L : List Spn) (w : World) (hl : L.length ≤ 140737488351232) (hat : SpAt w ao L) :
 Calls Tryz.prog 122 #[.slice ao L.length cap] w fun e w' => e = .returned (.bool (decide (IsSet L))) ∧ Below w.heap.size w w' := by
 go_enter Tryz.func122, Tryz.ntmps122
 go_wp2
 go_loopw [3] (fun i wr => ∃ k : Nat, k ≤ L.length ∧ i = .int .i64 k ∧ Hid (∀ j, j < k → okAt L j) ∧ Below w.heap.size w wr) (fun i _ => L.length - (intOf i).toNat)
 case atStart => exact ⟨0, Nat.zero_le _, rfl, fun j hj => absurd hj (by omega), Below.refl _ _⟩
 case round =>
  obtain ⟨k, hk, rfl, hok, hq⟩ := hrel
  have HQ := hide hq
  clear hq
  by_cases hlt : k < L.length
  · obtain ⟨b, off, rfl, hb, hc⟩ := hat.get hlt
    obtain ⟨c1, c2⟩ := (hc k hlt).below HQ.out hb
    have hbr : b < wr.heap.size := Nat.lt_of_lt_of_le hb HQ.out.size
    have hc' := fun (h0 : 0 < k) => ((hc (k - 1) (by omega)).below HQ.out hb).2
    obtain ⟨s, hs⟩ : ∃ s, s = L.getD k (0, 0) := ⟨_, rfl⟩
    rw [← hs] at c1 c2
    have HS := hide hs
    have HC' := hide hc'
    have HD : Hid (Below wr.heap.size wr wr.drew) := (Below.refl _ _).drew
    have hki : (k : Int) < (L.length : Int) := by omega
    clear hs hc hc' hat
    by_cases z1 : s.1 < 0
    · have d1 : decide (s.1 < 0) = true := decide_eq_true z1
      have hno : ¬ Bnd s := fun h => by unfold Bnd at h; omega
      go_wp2
      refine wp_region_quiet (C := fun w' => Below wr.heap.size wr w') (by kernel_rfl) (by kernel_rfl) HD.out ?_
      refine QW.out (l := _ :: _) ?_
      iterate 7 (refine QW.take (by rfl) ?_; apply Exists.intro; refine ⟨fun w' hw' => ?_, ?_⟩; (· (have g1 := (hw'.cell (p := ⟨b, off + k * 2, none⟩) hbr).trans c1; have g2 := (hw'.cell (p := ⟨b, off + k * 2 + 1, none⟩) hbr).trans c2; go_simp; first | done | ((try simp only [d1]); first | done | rfl))); try simp only [Act.put, List.setIfInBounds_toArray, List.set_cons_zero, List.set_cons_succ])
      iterate 11 (refine QW.skip (by rfl) ?_; try simp only [Act.put, List.setIfInBounds_toArray, List.set_cons_zero, List.set_cons_succ])
      iterate 2 (refine QW.take (by rfl) ?_; apply Exists.intro; refine ⟨fun w' hw' => ?_, ?_⟩; (· (have g1 := (hw'.cell (p := ⟨b, off + k * 2, none⟩) hbr).trans c1; have g2 := (hw'.cell (p := ⟨b, off + k * 2 + 1, none⟩) hbr).trans c2; go_simp; first | done | ((try simp only [d1]); first | done | rfl))); try simp only [Act.put, List.setIfInBounds_toArray, List.set_cons_zero, List.set_cons_succ])
      iterate 6 (refine QW.skip (by rfl) ?_; try simp only [Act.put, List.setIfInBounds_toArray, List.set_cons_zero, List.set_cons_succ])
      iterate 2 (refine QW.take (by rfl) ?_; apply Exists.intro; refine ⟨fun w' hw' => ?_, ?_⟩; (· (have g1 := (hw'.cell (p := ⟨b, off + k * 2, none⟩) hbr).trans c1; have g2 := (hw'.cell (p := ⟨b, off + k * 2 + 1, none⟩) hbr).trans c2; go_simp; first | done | ((try simp only [d1]); first | done | rfl))); try simp only [Act.put, List.setIfInBounds_toArray, List.set_cons_zero, List.set_cons_succ])
      iterate 17 (refine QW.skip (by rfl) ?_; try simp only [Act.put, List.setIfInBounds_toArray, List.set_cons_zero, List.set_cons_succ])
      iterate 1 (refine QW.take (by rfl) ?_; apply Exists.intro; refine ⟨fun w' hw' => ?_, ?_⟩; (· (have g1 := (hw'.cell (p := ⟨b, off + k * 2, none⟩) hbr).trans c1; have g2 := (hw'.cell (p := ⟨b, off + k * 2 + 1, none⟩) hbr).trans c2; go_simp; first | done | ((try simp only [d1]); first | done | rfl))); try simp only [Act.put, List.setIfInBounds_toArray, List.set_cons_zero, List.set_cons_succ])
      refine QW.nil ?_
      intro w2 x2
      have X2 := hide x2
      clear x2
      go_wp2
      go_ret
      refine ⟨?_, bt HQ.out X2.out (Nat.le_refl _)⟩
      rw [decide_eq_false (fun h => hno (by rw [HS.out]; exact (ok_of_isSet h hlt).1))]
      rfl
    have d1 : decide (s.1 < 0) = false := decide_eq_false z1
    by_cases z2 : s.2 < s.1
    · have d2 : decide (s.2 < s.1) = true := decide_eq_true z2
      have hno : ¬ Bnd s := fun h => by unfold Bnd at h; omega
      go_wp2
      refine wp_region_quiet (C := fun w' => Below wr.heap.size wr w') (by kernel_rfl) (by kernel_rfl) HD.out ?_
      refine QW.out (l := _ :: _) ?_
      iterate 20 (refine QW.take (by rfl) ?_; apply Exists.intro; refine ⟨fun w' hw' => ?_, ?_⟩; (· (have g1 := (hw'.cell (p := ⟨b, off + k * 2, none⟩) hbr).trans c1; have g2 := (hw'.cell (p := ⟨b, off + k * 2 + 1, none⟩) hbr).trans c2; go_simp; first | done | ((try simp only [d1, d2]); first | done | rfl))); try simp only [Act.put, List.setIfInBounds_toArray, List.set_cons_zero, List.set_cons_succ])
      iterate 6 (refine QW.skip (by rfl) ?_; try simp only [Act.put, List.setIfInBounds_toArray, List.set_cons_zero, List.set_cons_succ])
      iterate 2 (refine QW.take (by rfl) ?_; apply Exists.intro; refine ⟨fun w' hw' => ?_, ?_⟩; (· (have g1 := (hw'.cell (p := ⟨b, off + k * 2, none⟩) hbr).trans c1; have g2 := (hw'.cell (p := ⟨b, off + k * 2 + 1, none⟩) hbr).trans c2; go_simp; first | done | ((try simp only [d1, d2]); first | done | rfl))); try simp only [Act.put, List.setIfInBounds_toArray, List.set_cons_zero, List.set_cons_succ])
      iterate 17 (refine QW.skip (by rfl) ?_; try simp only [Act.put, List.setIfInBounds_toArray, List.set_cons_zero, List.set_cons_succ])
      iterate 1 (refine QW.take (by rfl) ?_; apply Exists.intro; refine ⟨fun w' hw' => ?_, ?_⟩; (· (have g1 := (hw'.cell (p := ⟨b, off + k * 2, none⟩) hbr).trans c1; have g2 := (hw'.cell (p := ⟨b, off + k * 2 + 1, none⟩) hbr).trans c2; go_simp; first | done | ((try simp only [d1, d2]); first | done | rfl))); try simp only [Act.put, List.setIfInBounds_toArray, List.set_cons_zero, List.set_cons_succ])
      refine QW.nil ?_
      intro w2 x2
      have X2 := hide x2
      clear x2
      go_wp2
      go_ret
      refine ⟨?_, bt HQ.out X2.out (Nat.le_refl _)⟩
      rw [decide_eq_false (fun h => hno (by rw [HS.out]; exact (ok_of_isSet h hlt).1))]
      rfl
    have d2 : decide (s.2 < s.1) = false := decide_eq_false z2
    by_cases z3 : 4294967295 < s.2
    · have d3 : decide (4294967295 < s.2) = true := decide_eq_true z3
      have hno : ¬ Bnd s := fun h => by unfold Bnd at h; omega
      go_wp2
      refine wp_region_quiet (C := fun w' => Below wr.heap.size wr w') (by kernel_rfl) (by kernel_rfl) HD.out ?_
      refine QW.out (l := _ :: _) ?_
      iterate 28 (refine QW.take (by rfl) ?_; apply Exists.intro; refine ⟨fun w' hw' => ?_, ?_⟩; (· (have g1 := (hw'.cell (p := ⟨b, off + k * 2, none⟩) hbr).trans c1; have g2 := (hw'.cell (p := ⟨b, off + k * 2 + 1, none⟩) hbr).trans c2; go_simp; first | done | ((try simp only [d1, d2, d3]); first | done | rfl))); try simp only [Act.put, List.setIfInBounds_toArray, List.set_cons_zero, List.set_cons_succ])
      iterate 17 (refine QW.skip (by rfl) ?_; try simp only [Act.put, List.setIfInBounds_toArray, List.set_cons_zero, List.set_cons_succ])
      iterate 1 (refine QW.take (by rfl) ?_; apply Exists.intro; refine ⟨fun w' hw' => ?_, ?_⟩; (· (have g1 := (hw'.cell (p := ⟨b, off + k * 2, none⟩) hbr).trans c1; have g2 := (hw'.cell (p := ⟨b, off + k * 2 + 1, none⟩) hbr).trans c2; go_simp; first | done | ((try simp only [d1, d2, d3]); first | done | rfl))); try simp only [Act.put, List.setIfInBounds_toArray, List.set_cons_zero, List.set_cons_succ])
      refine QW.nil ?_
      intro w2 x2
      have X2 := hide x2
      clear x2
      go_wp2
      go_ret
      refine ⟨?_, bt HQ.out X2.out (Nat.le_refl _)⟩
      rw [decide_eq_false (fun h => hno (by rw [HS.out]; exact (ok_of_isSet h hlt).1))]
      rfl
    have d3 : decide (4294967295 < s.2) = false := decide_eq_false z3
    have hbd : Bnd s := ⟨by omega, by omega, by omega⟩
    by_cases h0 : 0 < k
    · have hp := HC'.out h0
      have hpo := (hok.out (k - 1) (by omega)).1
      obtain ⟨z, hz⟩ : ∃ z, z = L.getD (k - 1) (0, 0) := ⟨_, rfl⟩
      rw [← hz] at hp hpo
      have HZ := hide hz
      clear hz
      have hkz : ((k : Int) - 1) = ((k - 1 : Nat) : Int) := by omega
      have fit : IntKind.i64.wrap ((k - 1 : Nat) : Int) = ((k - 1 : Nat) : Int) := by simp [IntKind.wrap, IntKind.bits, IntKind.signed]; omega
      have fz : IntKind.i64.wrap (s.1 - 2) = s.1 - 2 := by simp [IntKind.wrap, IntKind.bits, IntKind.signed]; omega
      have hi2 : ((k - 1 : Nat) : Int) < (L.length : Int) := by omega
      have hkg : decide ((0 : Int) < (k : Int)) = true := decide_eq_true (by omega)
      by_cases hgap : z.2 + 2 ≤ s.1
      · have hgd : decide (s.1 - 2 < z.2) = false := decide_eq_false (by omega)
        go_wp2
        refine wp_region_quiet (C := fun w' => Below wr.heap.size wr w') (by kernel_rfl) (by kernel_rfl) HD.out ?_
        refine QW.out (l := _ :: _) ?_
        iterate 46 (refine QW.take (by rfl) ?_; apply Exists.intro; refine ⟨fun w' hw' => ?_, ?_⟩; (· (have g1 := (hw'.cell (p := ⟨b, off + k * 2, none⟩) hbr).trans c1; have g2 := (hw'.cell (p := ⟨b, off + k * 2 + 1, none⟩) hbr).trans c2; have g3 := (hw'.cell (p := ⟨b, off + (k - 1) * 2 + 1, none⟩) hbr).trans hp; go_simp; first | done | ((try simp only [d1, d2, d3, fit, fz, hkg, hgd]); first | done | rfl))); try simp only [Act.put, List.setIfInBounds_toArray, List.set_cons_zero, List.set_cons_succ])
        refine QW.nil ?_
        intro w2 x2
        have X2 := hide x2
        clear x2
        go_wp2
        go_roundw
        case rel => exact ⟨k + 1, by omega, by go_num, fun j hj => by
         rcases Nat.lt_or_ge j k with h | h
         · exact hok.out j h
         · rw [show j = k by omega]; exact ⟨by rw [← HS.out]; exact hbd, fun _ => by rw [← HZ.out, ← HS.out]; exact hgap⟩, bt HQ.out X2.out (Nat.le_refl _)⟩
        case measure => simp [intOf]; omega
      · have hgd : decide (s.1 - 2 < z.2) = true := decide_eq_true (by omega)
        go_wp2
        refine wp_region_quiet (C := fun w' => Below wr.heap.size wr w') (by kernel_rfl) (by kernel_rfl) HD.out ?_
        refine QW.out (l := _ :: _) ?_
        iterate 46 (refine QW.take (by rfl) ?_; apply Exists.intro; refine ⟨fun w' hw' => ?_, ?_⟩; (· (have g1 := (hw'.cell (p := ⟨b, off + k * 2, none⟩) hbr).trans c1; have g2 := (hw'.cell (p := ⟨b, off + k * 2 + 1, none⟩) hbr).trans c2; have g3 := (hw'.cell (p := ⟨b, off + (k - 1) * 2 + 1, none⟩) hbr).trans hp; go_simp; first | done | ((try simp only [d1, d2, d3, fit, fz, hkg, hgd]); first | done | rfl))); try simp only [Act.put, List.setIfInBounds_toArray, List.set_cons_zero, List.set_cons_succ])
        refine QW.nil ?_
        intro w2 x2
        have X2 := hide x2
        clear x2
        go_wp2
        go_ret
        refine ⟨?_, bt HQ.out X2.out (Nat.le_refl _)⟩
        rw [decide_eq_false (fun h => by have := (ok_of_isSet h hlt).2 h0; rw [← HZ.out, ← HS.out] at this; omega)]
        rfl
    · have hk0 : ¬ (0 : Int) < (k : Int) := by omega
      have hkg : decide ((0 : Int) < (k : Int)) = false := decide_eq_false hk0
      go_wp2
      refine wp_region_quiet (C := fun w' => Below wr.heap.size wr w') (by kernel_rfl) (by kernel_rfl) HD.out ?_
      refine QW.out (l := _ :: _) ?_
      iterate 31 (refine QW.take (by rfl) ?_; apply Exists.intro; refine ⟨fun w' hw' => ?_, ?_⟩; (· (have g1 := (hw'.cell (p := ⟨b, off + k * 2, none⟩) hbr).trans c1; have g2 := (hw'.cell (p := ⟨b, off + k * 2 + 1, none⟩) hbr).trans c2; go_simp; first | done | ((try simp only [d1, d2, d3, hkg]); first | done | rfl))); try simp only [Act.put, List.setIfInBounds_toArray, List.set_cons_zero, List.set_cons_succ])
      iterate 13 (refine QW.skip (by rfl) ?_; try simp only [Act.put, List.setIfInBounds_toArray, List.set_cons_zero, List.set_cons_succ])
      iterate 2 (refine QW.take (by rfl) ?_; apply Exists.intro; refine ⟨fun w' hw' => ?_, ?_⟩; (· (have g1 := (hw'.cell (p := ⟨b, off + k * 2, none⟩) hbr).trans c1; have g2 := (hw'.cell (p := ⟨b, off + k * 2 + 1, none⟩) hbr).trans c2; go_simp; first | done | ((try simp only [d1, d2, d3, hkg]); first | done | rfl))); try simp only [Act.put, List.setIfInBounds_toArray, List.set_cons_zero, List.set_cons_succ])
      refine QW.nil ?_
      intro w2 x2
      have X2 := hide x2
      clear x2
      go_wp2
      go_roundw
      case rel => exact ⟨k + 1, by omega, by go_num, fun j hj => by rw [show j = k by omega]; exact ⟨by rw [← HS.out]; exact hbd, fun h => absurd h (by omega)⟩, bt HQ.out X2.out (Nat.le_refl _)⟩
      case measure => simp [intOf]; omega
  · have h8 : k = L.length := by omega
    subst h8
    go_wp2
    go_ret
    exact ⟨by rw [decide_eq_true (isSet_of_ok hok.out)]; rfl, HQ.out⟩
end Go.Proofs.YtdgoilkgplnhfaaGreat
