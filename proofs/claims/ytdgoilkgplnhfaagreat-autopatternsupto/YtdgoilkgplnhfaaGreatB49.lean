/-
  known: the document's examples answer as they must. No condition.
-/
import Derived.Test.YtdgoilkgplnhfaaGreatB44
import Derived.Test.YtdgoilkgplnhfaaGreatB31
import Derived.Test.YtdgoilkgplnhfaaGreatB48
namespace Go.Proofs.YtdgoilkgplnhfaaGreat
open Go.RowKit Go.Lib

/-- Parse of a letter. -/
theorem parseA (w : World) : Calls Tryz.prog 22 #[.string ⟨#[97]⟩] w fun e w' => (∃ ao cap D, e = .returned (.tuple #[.slice ao D.length cap, .int .i64 0, .int .i64 0]) ∧ D.map PD.p = [pA] ∧ PcAt w' ao D) ∧ Below w.heap.size w w' := by
  refine (parse_any [97] w (by simp)).mono ?_
  rintro e w' ⟨hP, x⟩
  rw [parA] at hP
  obtain ⟨v, D, rfl, ho, hD⟩ := hP
  obtain ⟨ao, cap, rfl, _, hat⟩ := ho.at
  exact ⟨⟨ao, cap, D, rfl, hD, hat⟩, x⟩
set_option maxRecDepth 100000 in
set_option maxHeartbeats 4000000 in
theorem known_any (w : World) : Calls Tryz.prog 10 #[] w fun e w' => e = .returned (.bool true) ∧ Below w.heap.size w w' := by
  have HP := hide (parseA w)
  have HI : Hid ((Tryz.prog.info? 24).map (·.size) = some 3) := by unfold Hid; kernel_rfl
  go_enter Tryz.func10, Tryz.ntmps10
  go_upto_region 2 with (go_at_call 22; refine HP.out.mono ?_; rintro e w1 ⟨⟨ao, cap, D, rfl, hD, hat⟩, x1⟩; have HD := hide hD; have HAT := hide hat; have X1 := hide x1; clear hD hat x1)
  have HOF : Hid (Calls Tryz.prog 20 #[.slice ao D.length cap] w1 fun e w' => (∃ bs xa oa xc oc NX OU, e = .returned (.tuple #[.agg #[.string ⟨bs.toArray⟩, .slice xa NX.length xc, .slice oa OU.length oc], .int .i64 0]) ∧ OfR w' w1.heap.size [pA] bs xa oa xc oc NX OU) ∧ Below w1.heap.size w1 w') := by
    refine (of_any ao cap D w1 (fun d hd => ?_) HAT.out).mono ?_
    · have : d.p ∈ D.map PD.p := List.mem_map_of_mem hd
      rw [HD.out] at this
      rw [List.mem_singleton.1 this]
      simp [pA]
    · rintro e w' ⟨h, x⟩
      rw [HD.out] at h
      refine ⟨?_, x⟩
      rcases h.yes rtA with ⟨hm, _⟩ | h
      · exact (few_not_many fewA hm).elim
      · exact h
  go_upto_region 3 with (go_at_call 20; refine HOF.out.mono ?_; rintro e w2 ⟨⟨bs, xa, oa, xc, oc, NX, OU, rfl, hof⟩, x2⟩; have HF := hide hof; have X2 := hide (bt X1.out x2 (Nat.le_refl _)); clear hof x2)
  obtain ⟨hO, hX⟩ := sizeA HF.out.at'.may HF.out.at'.rt HF.out.lab
  have X3 : Below w2.heap.size w2 (w2.alloc (.cells #[.string ⟨bs.toArray⟩, .slice xa NX.length xc, .slice oa OU.length oc] 24)) := al (Below.refl _ _) _
  have B3 := heap_alloc_new w2 (.cells #[.string ⟨bs.toArray⟩, .slice xa NX.length xc, .slice oa OU.length oc] 24)
  obtain ⟨w3, hw3⟩ : ∃ w3, w3 = w2.alloc (.cells #[.string ⟨bs.toArray⟩, .slice xa NX.length xc, .slice oa OU.length oc] 24) := ⟨_, rfl⟩
  obtain ⟨pb, hpb⟩ : ∃ pb, pb = w2.heap.size := ⟨_, rfl⟩
  rw [← hw3] at X3 B3 ⊢
  rw [← hpb] at B3 ⊢
  have HX3 := hide (bt X2.out X3 (Nat.le_refl _))
  have HC : Hid (∀ V, Below w3.heap.size w3 V → V.cell? ⟨pb, 0, none⟩ = some (.string ⟨bs.toArray⟩) ∧ V.cell? ⟨pb, 1, none⟩ = some (.slice xa 6 xc) ∧ V.cell? ⟨pb, 2, none⟩ = some (.slice oa 3 oc)) := fun V x => by
    have Bv := (x.block _ (lt_of_block B3)).trans B3
    rw [hX, hO] at Bv
    exact ⟨by rw [cell_of_row _ _ _ _ _ _ Bv]; rfl, by rw [cell_of_row _ _ _ _ _ _ Bv]; rfl, by rw [cell_of_row _ _ _ _ _ _ Bv]; rfl⟩
  have l1 : (dfA bs NX OU).lab 0 (ntL [97]) = 1 := by rw [HF.out.lab]; exact (by kernel_rfl : (if mtF [pA] [97] ([pA] : List Pc).length then (1 : Int) else 0) = 1)
  have l2 : (dfA bs NX OU).lab 0 (ntL [97, 98]) = 0 := by rw [HF.out.lab]; exact (by kernel_rfl : (if mtF [pA] [97, 98] ([pA] : List Pc).length then (1 : Int) else 0) = 0)
  have HR1 : Hid (∀ V, Below w3.heap.size w3 V → Calls Tryz.prog 27 #[.agg #[.string ⟨bs.toArray⟩, .slice xa 6 xc, .slice oa 3 oc], .string ⟨#[97]⟩] V fun e w' => e = .returned (.tuple #[.int .i64 1, .int .i64 0]) ∧ Below V.heap.size V w') := fun V x => by
    have := (HF.out.at'.below (bt X3 x (Nat.le_refl _))).run xc oc [97] (by simp)
    rw [l1, hO, hX] at this
    exact this
  have HR2 : Hid (∀ V, Below w3.heap.size w3 V → Calls Tryz.prog 27 #[.agg #[.string ⟨bs.toArray⟩, .slice xa 6 xc, .slice oa 3 oc], .string ⟨#[97, 98]⟩] V fun e w' => e = .returned (.tuple #[.int .i64 0, .int .i64 0]) ∧ Below V.heap.size V w') := fun V x => by
    have := (HF.out.at'.below (bt X3 x (Nat.le_refl _))).run xc oc [97, 98] (by simp)
    rw [l2, hO, hX] at this
    exact this
  have HSH : Hid (∀ V, Below w3.heap.size w3 V → Calls Tryz.prog 29 #[.agg #[.string ⟨bs.toArray⟩, .slice xa 6 xc, .slice oa 3 oc], .int .i64 1] V fun e w' => e = .returned (.tuple #[.string ⟨#[97]⟩, .bool true, .int .i64 0]) ∧ Below V.heap.size V w') := fun V x => by
    have := (HF.out.at'.below (bt X3 x (Nat.le_refl _))).short xc oc 1
    rw [hO, hX] at this
    refine this.mono ?_
    rintro e w' ⟨⟨s, is, rfl, hS⟩, x'⟩
    refine ⟨?_, x'⟩
    rcases hS with ⟨rfl, st, t, _, k2, _, k4, rfl⟩ | ⟨_, _, k⟩
    · rw [leastA HF.out.lab k2 k4]
    · refine absurd l1 (k _ (HF.out.at'.rt.toOk.run HF.out.at'.rt.n0 (ntL_txt _)))
  have HRR : Hid (∀ V, Below w3.heap.size w3 V → Calls Tryz.prog 16 #[.agg #[.string ⟨bs.toArray⟩, .slice xa 6 xc, .slice oa 3 oc]] V fun e w' => e = .returned (.bool true) ∧ Below V.heap.size V w') := fun V x => by
    have := (HF.out.at'.below (bt X3 x (Nat.le_refl _))).right xc oc
    rw [hO, hX] at this
    exact this
  rw [hX, hO]
  obtain ⟨c0, c1, c2⟩ := HC.out w3 (Below.refl _ _)
  clear hw3 hpb X3 B3 HF hO hX l1 l2 HOF HP HAT HD
  go_upto_region 4 with (go_at_call 27; refine (HR1.out _ (Below.refl _ _)).mono ?_; rintro e w4 ⟨rfl, x4⟩; have X4 := hide x4; clear x4)
  obtain ⟨c0, c1, c2⟩ := HC.out w4 X4.out
  clear HR1
  go_upto_region 5 with (go_at_call 27; refine (HR2.out _ X4.out).mono ?_; rintro e w5 ⟨rfl, x5⟩; have X5 := hide (bt X4.out x5 (Nat.le_refl _)); clear x5)
  obtain ⟨c0, c1, c2⟩ := HC.out w5 X5.out
  go_upto_region 6 with (go_at_call 29; refine (HSH.out _ X5.out).mono ?_; rintro e w6 ⟨rfl, x6⟩; have X6 := hide (bt X5.out x6 (Nat.le_refl _)); clear x6)
  obtain ⟨c0, c1, c2⟩ := HC.out w6 X6.out
  go_wp2_with (go_at_call 16; refine (HRR.out _ X6.out).mono ?_; rintro e w7 ⟨rfl, x7⟩; have X7 := hide (bt X6.out x7 (Nat.le_refl _)); clear x7)
  go_ret
  exact ⟨rfl, bt HX3.out X7.out (Nat.le_refl _)⟩
end Go.Proofs.YtdgoilkgplnhfaaGreat
/-
  Two rows of pieces, one behind the other: what they match; what Parse tells is right. No condition.
-/
namespace Go.Proofs.YtdgoilkgplnhfaaGreat

theorem mM_left {L1 L2 : List Pc} {i : Nat} (h : i < L1.length) : mM (L1 ++ L2) i = mM L1 i := by
  unfold mM
  rw [List.getD_eq_getElem?_getD, List.getElem?_append_left h, List.getD_eq_getElem?_getD]
theorem mT_left {L1 L2 : List Pc} {i : Nat} (h : i < L1.length) (c : UInt8) : mT (L1 ++ L2) i c = mT L1 i c := by
  unfold mT
  rw [List.getD_eq_getElem?_getD, List.getElem?_append_left h, List.getD_eq_getElem?_getD]
theorem mM_right (L1 L2 : List Pc) (j : Nat) : mM (L1 ++ L2) (L1.length + j) = mM L2 j := by
  unfold mM
  rw [List.getD_eq_getElem?_getD, List.getElem?_append_right (by omega), Nat.add_sub_cancel_left, List.getD_eq_getElem?_getD]
theorem mT_right (L1 L2 : List Pc) (j : Nat) (c : UInt8) : mT (L1 ++ L2) (L1.length + j) c = mT L2 j c := by
  unfold mT
  rw [List.getD_eq_getElem?_getD, List.getElem?_append_right (by omega), Nat.add_sub_cancel_left, List.getD_eq_getElem?_getD]
theorem rm_left (L1 L2 : List Pc) : ∀ (v : By) (i : Nat), i ≤ L1.length → rm (L1 ++ L2) i v = rm L1 i v
  | [], 0, _ => by rw [rm_00, rm_00]
  | c :: v, 0, _ => by rw [rm_0c, rm_0c]
  | [], i + 1, h => by rw [rm_s0, rm_s0, mM_left (by omega), rm_left L1 L2 [] i (by omega)]
  | c :: v, i + 1, h => by rw [rm_sc, rm_sc, mM_left (by omega), mT_left (by omega), rm_left L1 L2 (c :: v) i (by omega), rm_left L1 L2 v (i + 1) h, rm_left L1 L2 v i (by omega)]
termination_by v i => (v.length, i)
theorem rm_cat (L1 L2 : List Pc) : ∀ (v : By) (j : Nat), rm (L1 ++ L2) (L1.length + j) v = true ↔ ∃ a b, v = a ++ b ∧ rm L2 j a = true ∧ rm L1 L1.length b = true
  | v, 0 => by
    rw [Nat.add_zero, rm_left L1 L2 v _ (Nat.le_refl _)]
    constructor
    · exact fun h => ⟨[], v, rfl, rm_00 L2, h⟩
    · rintro ⟨a, b, rfl, h1, h2⟩
      cases a with
      | nil => exact h2
      | cons c a => rw [rm_0c] at h1; cases h1
  | [], j + 1 => by
    rw [← Nat.add_assoc, rm_s0, mM_right]
    constructor
    · intro h
      simp only [Bool.and_eq_true] at h
      obtain ⟨a, b, h1, h2, h3⟩ := (rm_cat L1 L2 [] j).1 h.2
      have ha : a = [] := by cases a with | nil => rfl | cons c a => cases h1
      have hb : b = [] := by cases b with | nil => rfl | cons c b => rw [ha] at h1; cases h1
      subst ha hb
      exact ⟨[], [], rfl, by rw [rm_s0, h.1, h2]; rfl, h3⟩
    · rintro ⟨a, b, h1, h2, h3⟩
      have ha : a = [] := by cases a with | nil => rfl | cons c a => cases h1
      have hb : b = [] := by cases b with | nil => rfl | cons c b => rw [ha] at h1; cases h1
      subst ha hb
      rw [rm_s0] at h2
      simp only [Bool.and_eq_true] at h2
      rw [h2.1, (rm_cat L1 L2 [] j).2 ⟨[], [], rfl, h2.2, h3⟩]
      rfl
  | c :: v, j + 1 => by
    rw [← Nat.add_assoc, rm_sc, mM_right, mT_right]
    have ih1 := rm_cat L1 L2 (c :: v) j
    have ih2 := rm_cat L1 L2 v (j + 1)
    have ih3 := rm_cat L1 L2 v j
    rw [← Nat.add_assoc] at ih2
    cases hM : mM L2 j with
    | true =>
      rw [if_pos rfl]
      simp only [Bool.or_eq_true, Bool.and_eq_true]
      constructor
      · rintro (h | ⟨hT, h⟩)
        · obtain ⟨a, b, h1, h2, h3⟩ := ih1.1 h
          refine ⟨a, b, h1, ?_, h3⟩
          cases a with
          | nil => rw [rm_s0, hM, h2]; rfl
          | cons d a => rw [rm_sc, hM, if_pos rfl, h2]; rfl
        · obtain ⟨a, b, h1, h2, h3⟩ := ih2.1 h
          refine ⟨c :: a, b, by rw [h1]; rfl, ?_, h3⟩
          rw [rm_sc, hM, if_pos rfl, hT, h2]
          simp
      · rintro ⟨a, b, h1, h2, h3⟩
        cases a with
        | nil =>
          rw [rm_s0, hM, Bool.true_and] at h2
          exact .inl (ih1.2 ⟨[], b, h1, h2, h3⟩)
        | cons d a =>
          injection h1 with e1 e2
          subst e1
          rw [rm_sc, hM, if_pos rfl] at h2
          simp only [Bool.or_eq_true, Bool.and_eq_true] at h2
          rcases h2 with h2 | ⟨hT, h2⟩
          · exact .inl (ih1.2 ⟨c :: a, b, by rw [e2]; rfl, h2, h3⟩)
          · exact .inr ⟨hT, ih2.2 ⟨a, b, e2, h2, h3⟩⟩
    | false =>
      rw [if_neg (by decide)]
      simp only [Bool.and_eq_true]
      constructor
      · rintro ⟨hT, h⟩
        obtain ⟨a, b, h1, h2, h3⟩ := ih3.1 h
        refine ⟨c :: a, b, by rw [h1]; rfl, ?_, h3⟩
        rw [rm_sc, hM, if_neg (by decide), hT, h2]
        rfl
      · rintro ⟨a, b, h1, h2, h3⟩
        cases a with
        | nil => rw [rm_s0, hM] at h2; cases h2
        | cons d a =>
          injection h1 with e1 e2
          subst e1
          rw [rm_sc, hM, if_neg (by decide)] at h2
          simp only [Bool.and_eq_true] at h2
          exact ⟨h2.1, ih3.2 ⟨a, b, e2, h2.2, h3⟩⟩
termination_by v j => (v.length, j)
/-- Some beginning is matched by the former, the rest by the latter. -/
def cutsB (L1 L2 : List Pc) (s : By) (k : Nat) : Bool := (List.range k).any fun n => mtF L1 (s.take n) L1.length && mtF L2 (s.drop n) L2.length
theorem cutsB_succ (L1 L2 : List Pc) (s : By) (k : Nat) : cutsB L1 L2 s (k + 1) = (cutsB L1 L2 s k || (mtF L1 (s.take k) L1.length && mtF L2 (s.drop k) L2.length)) := by
  unfold cutsB
  rw [List.range_succ, List.any_append]
  simp
theorem match_cat (L1 L2 : List Pc) (s : By) : mtF (L1 ++ L2) s (L1 ++ L2).length = cutsB L1 L2 s (s.length + 1) := by
  rw [mtF_is, List.length_append, Bool.eq_iff_iff, rm_cat]
  unfold cutsB
  simp only [List.any_eq_true, List.mem_range, Bool.and_eq_true, mtF_is]
  constructor
  · rintro ⟨a, b, h1, h2, h3⟩
    have hs : s = b.reverse ++ a.reverse := by rw [← List.reverse_append, ← h1, List.reverse_reverse]
    refine ⟨b.length, by rw [hs]; simp; omega, ?_, ?_⟩
    · rw [hs, show b.length = b.reverse.length by simp, List.take_left, List.reverse_reverse]; simpa using h3
    · rw [hs, show b.length = b.reverse.length by simp, List.drop_left, List.reverse_reverse]; exact h2
  · rintro ⟨n, hn, h1, h2⟩
    exact ⟨(s.drop n).reverse, (s.take n).reverse, by rw [← List.reverse_append, List.take_append_drop], h2, h1⟩
/-- A piece that takes many begins with a star; behind a Star none stands. -/
theorem pcL_star {r t : By} {p : Pc} (h : pcL r = .ok (p, t)) : (manyK p.kind = true → [42].isPrefixOf r = true) ∧ (p.kind = 4 → [42].isPrefixOf t = false) := by
  unfold pcL at h
  split at h
  · rename_i hb
    injection h with h; injection h with h1 h2; subst h1 h2
    refine ⟨fun _ => ?_, fun h => absurd (show (5 : Int) = 4 from h) (by decide)⟩
    obtain ⟨t, rfl⟩ := List.isPrefixOf_iff_prefix.1 hb
    rfl
  · rename_i hb0
    split at h
    · rename_i hb
      injection h with h; injection h with h1 h2; subst h1 h2
      refine ⟨fun _ => hb, fun _ => ?_⟩
      obtain ⟨t, rfl⟩ := List.isPrefixOf_iff_prefix.1 hb
      cases ht : [42].isPrefixOf (([42] ++ t).drop 1) with
      | false => rfl
      | true =>
        exfalso
        apply hb0
        obtain ⟨u, hu⟩ := List.isPrefixOf_iff_prefix.1 ht
        simp at hu
        subst hu
        rfl
    · split at h
      · injection h with h; injection h with h1 h2; subst h1 h2
        exact ⟨fun h => absurd (show manyK 2 = true from h) (by decide), fun h => absurd (show (2 : Int) = 4 from h) (by decide)⟩
      · split at h
        · obtain ⟨_, _, _, hk⟩ := stL_ok h
          exact ⟨fun h => by rw [hk] at h; exact absurd h (by decide), fun h => by rw [hk] at h; exact absurd h (by decide)⟩
        · split at h
          · cases h
          · injection h with h; injection h with h1 h2; subst h1 h2
            exact ⟨fun h => absurd (show manyK 1 = true from h) (by decide), fun h => absurd (show (1 : Int) = 4 from h) (by decide)⟩
theorem getD_snoc_lt {A : List Pc} {p : Pc} {i : Nat} (h : i < A.length) : (A ++ [p]).getD i zPc = A.getD i zPc := by
  rw [List.getD_eq_getElem?_getD, List.getElem?_append_left h, List.getD_eq_getElem?_getD]
theorem getD_snoc_eq {A : List Pc} {p : Pc} : (A ++ [p]).getD A.length zPc = p := by
  rw [List.getD_eq_getElem?_getD, List.getElem?_append_right (Nat.le_refl _), Nat.sub_self]
  rfl
theorem Rt.snoc {A : List Pc} {p : Pc} (h : Rt A) (hl : A.length < 64) (hp : Rp p) (ha : ∀ i, i + 1 = A.length → (A.getD i zPc).kind = 4 → manyK p.kind = false) : Rt (A ++ [p]) := by
  refine ⟨by rw [List.length_append, List.length_singleton]; omega, fun q hq => ?_, fun i hi => ?_⟩
  · rcases List.mem_append.1 hq with hq | hq
    · exact h.2.1 q hq
    · rw [List.mem_singleton.1 hq]; exact hp
  · rw [List.length_append, List.length_singleton] at hi
    by_cases h1 : i + 1 < A.length
    · rw [getD_snoc_lt (by omega), getD_snoc_lt h1]; exact h.2.2 i h1
    · have h2 : i + 1 = A.length := by omega
      rw [getD_snoc_lt (by omega), h2, getD_snoc_eq]
      rintro ⟨h3, h4⟩
      rw [ha i h2 h3] at h4
      cases h4
theorem psL_right : ∀ {n : Nat} {r : By} {A L : List Pc}, psL n r A = .ok L → Rt A → (∀ i, i + 1 = A.length → (A.getD i zPc).kind = 4 → [42].isPrefixOf r = false) → Rt L
  | 0, r, A, L, h, _, _ => by cases h
  | n + 1, r, A, L, h, hA, ha => by
    unfold psL at h
    split at h
    · injection h with h; subst h; exact hA
    · split at h
      · cases h
      · rename_i h64
        split at h
        · cases h
        · rename_i p t hp
          obtain ⟨a1, a2, a3⟩ := pcL_ok hp
          obtain ⟨b1, b2⟩ := pcL_star hp
          refine psL_right h (hA.snoc (by have := hA.1; omega) a3 (fun i h1 h2 => ?_)) (fun i h1 h2 => ?_)
          · cases hm : manyK p.kind with
            | false => rfl
            | true => have := ha i h1 h2; rw [b1 hm] at this; cases this
          · have h3 : i = A.length := by rw [List.length_append, List.length_singleton] at h1; omega
            subst h3
            rw [getD_snoc_eq] at h2
            exact b2 h2
theorem Rt.nil : Rt [] := ⟨by decide, fun p hp => (by cases hp), fun i hi => absurd hi (by simp)⟩
theorem parL_right {s : By} {L : List Pc} (h : parL s = .ok L) : Rt L := psL_right h Rt.nil (fun i hi => absurd hi (by simp))
/-- Why two right rows are not right together. -/
theorem not_right_cat {L1 L2 : List Pc} (h1 : Rt L1) (h2 : Rt L2) (h : ¬ Rt (L1 ++ L2)) (h64 : (L1 ++ L2).length ≤ 64) : 0 < L1.length ∧ 0 < L2.length ∧ (L1.getD (L1.length - 1) zPc).kind = 4 ∧ 4 ≤ (L2.getD 0 zPc).kind := by
  apply Classical.byContradiction
  intro hc
  apply h
  refine ⟨h64, fun p hp => ?_, fun i hi => ?_⟩
  · rcases List.mem_append.1 hp with hp | hp
    · exact h1.2.1 p hp
    · exact h2.2.1 p hp
  · rw [List.length_append] at hi
    rw [List.getD_eq_getElem?_getD, List.getD_eq_getElem?_getD]
    by_cases ha : i + 1 < L1.length
    · rw [List.getElem?_append_left (by omega), List.getElem?_append_left ha, ← List.getD_eq_getElem?_getD, ← List.getD_eq_getElem?_getD]
      exact h1.2.2 i ha
    · by_cases hb : i < L1.length
      · have e : i = L1.length - 1 := by omega
        rw [List.getElem?_append_left hb, List.getElem?_append_right (by omega), show i + 1 - L1.length = 0 by omega, ← List.getD_eq_getElem?_getD, ← List.getD_eq_getElem?_getD, e]
        rintro ⟨h3, h4⟩
        apply hc
        refine ⟨by omega, by omega, h3, ?_⟩
        unfold manyK at h4
        simp only [Bool.or_eq_true, decide_eq_true_eq] at h4
        omega
      · rw [List.getElem?_append_right (by omega), List.getElem?_append_right (by omega), show i + 1 - L1.length = (i - L1.length) + 1 by omega, ← List.getD_eq_getElem?_getD, ← List.getD_eq_getElem?_getD]
        exact h2.2.2 _ (by omega)
end Go.Proofs.YtdgoilkgplnhfaaGreat
/-
  pick, Parse and Of of a pattern, by their contracts. Conditions: numbers of the machine's kind; patterns of at most 2^32 bytes.
-/
namespace Go.Proofs.YtdgoilkgplnhfaaGreat
open Go.RowKit Go.Lib

/-- A number of the machine's kind. -/
def Fit (x : Int) : Prop := -9223372036854775808 ≤ x ∧ x ≤ 9223372036854775807
theorem fit_of_wf {n : Int} (h : (Lit.int .i64 n).wf = true) : Fit n := by
  simp only [Lit.wf, IntKind.min, IntKind.max, IntKind.signed, IntKind.bits, Bool.and_eq_true, decide_eq_true_eq, if_true] at h
  unfold Fit
  omega
/-- Which of n things c speaks of. -/
def pkZ (c : Int) (n : Nat) : Nat := (if c < 0 then -(c + 1) else c).toNat % n
theorem pkZ_lt (c : Int) {n : Nat} (h : 0 < n) : pkZ c n < n := Nat.mod_lt _ h
set_option maxRecDepth 100000 in
theorem pick_any (c : Int) (n : Nat) (hc : Fit c) (hn : 0 < n) (hn2 : n ≤ 8589934592) (w : World) : Calls Tryz.prog 32 #[.int .i64 c, .int .i64 n] w fun e w' => e = .returned (.int .i64 (pkZ c n : Nat)) ∧ w' = w := by
  unfold Fit at hc
  have hn0 : ¬ (n : Int) = 0 := by omega
  by_cases h : c < 0
  · have e : ((pkZ c n : Nat) : Int) = (-(c + 1)).tmod n := by
      unfold pkZ
      rw [if_pos h, Int.natCast_emod, Int.toNat_of_nonneg (by omega), Int.tmod_eq_emod_of_nonneg (by omega)]
    rw [e]
    clear e
    have w1 : IntKind.i64.wrap (c + 1) = c + 1 := by simp [IntKind.wrap, IntKind.bits, IntKind.signed]; omega
    have w2 : IntKind.i64.wrap (-(c + 1)) = -(c + 1) := by simp [IntKind.wrap, IntKind.bits, IntKind.signed]; omega
    go_enter Tryz.func32, Tryz.ntmps32
    rw [Int.neg_tmod]
    go_wp2
    go_ret
    exact ⟨rfl, rfl⟩
  · have e : ((pkZ c n : Nat) : Int) = c % n := by
      unfold pkZ
      rw [if_neg h, Int.natCast_emod, Int.toNat_of_nonneg (by omega)]
    rw [e]
    clear e
    go_enter Tryz.func32, Tryz.ntmps32
    go_wp2
    go_ret
    exact ⟨rfl, rfl⟩
theorem set_short : ∀ (L : List Spn) (x : Int), IsSet L → (∀ s ∈ L, x ≤ s.1 ∧ s.2 ≤ 126) → x ≤ 127 → (L.length : Int) + x ≤ 127
  | [], x, _, _, hx => by simpa using hx
  | s :: L, x, h, hs, hx => by
    have h1 := hs s (by simp)
    have h2 := h.head
    unfold Bnd at h2
    cases L with
    | nil => simp; omega
    | cons t L =>
      have h3 := (List.pairwise_cons.1 h.2).1
      have ht := hs t (by simp)
      have ht2 := h.1 t (by simp)
      have ht3 := h3 t (by simp)
      unfold Bnd at ht2
      have ih := set_short (t :: L) (x + 2) h.tail (fun u hu => ⟨by have := h3 u hu; omega, (hs u (List.mem_cons_of_mem _ hu)).2⟩) (by omega)
      simp only [List.length_cons] at ih ⊢
      omega
/-- A right set of bytes is short. -/
theorem right_set_len {L : List Pc} (h : Rt L) : ∀ p ∈ L, p.set.length ≤ 4294967296 := by
  intro p hp
  rcases h.2.1 p hp with h | h | h
  · rw [h.2.2.2.2]; decide
  · rw [h.2.2.2]; decide
  · have h1 := set_short p.set 32 h.2.2.1 h.2.2.2.2 (by decide)
    omega
theorem matchOk_any (ao : Option Addr) (cap : Nat) (D : List PD) (s : By) (w : World) (hs : s.length ≤ 140737488351232) (hR : Rt (D.map PD.p)) (hat : PcAt w ao D) :
    Calls Tryz.prog 31 #[.slice ao D.length cap, .string ⟨s.toArray⟩] w fun e w' => e = .returned (.tuple #[.bool (mtF (D.map PD.p) s (D.map PD.p).length), .int .i64 0]) ∧ Below w.heap.size w w' :=
  (match_any ao cap D s w hs (fun d hd => by have := right_set_len hR d.p (List.mem_map.2 ⟨d, hd, rfl⟩); omega) hat).mono fun e w' ⟨h, x⟩ => by
    rcases h with ⟨_, h⟩ | ⟨h, _⟩
    · exact ⟨h, x⟩
    · exact absurd hR h
/-- Parse: pieces that are right, or an error. -/
theorem parseP_any (s : By) (w : World) (hl : s.length ≤ 4294967296) : Calls Tryz.prog 22 #[.string ⟨s.toArray⟩] w fun e w' => ((∃ ao cap D, e = .returned (.tuple #[.slice ao D.length cap, .int .i64 0, .int .i64 0]) ∧ Rt (D.map PD.p) ∧ PcAt w' ao D ∧ parL s = .ok (D.map PD.p)) ∨ (∃ n : Nat, e = .returned (.tuple #[.slice none 0 0, .int .i64 50, .int .i64 (n : Int)]))) ∧ Below w.heap.size w w' := by
  refine (parse_any s w hl).mono ?_
  rintro e w' ⟨hP, x⟩
  refine ⟨?_, x⟩
  cases hp : parL s with
  | ok L =>
    rw [hp] at hP
    obtain ⟨v, D, rfl, ho, hD⟩ := hP
    obtain ⟨ao, cap, rfl, _, hat⟩ := ho.at
    exact .inl ⟨ao, cap, D, rfl, by rw [hD]; exact parL_right hp, hat, by rw [hD]⟩
  | error t =>
    rw [hp] at hP
    exact .inr ⟨_, hP.1⟩
/-- Of pieces that are right. -/
theorem ofR_any (ao : Option Addr) (cap : Nat) (D : List PD) (w : World) (hR : Rt (D.map PD.p)) (hat : PcAt w ao D) : Calls Tryz.prog 20 #[.slice ao D.length cap] w fun e w' => ((OfMany (D.map PD.p) ∧ e = .returned (.tuple #[.agg #[.string ⟨#[]⟩, .slice none 0 0, .slice none 0 0], .int .i64 2])) ∨ ∃ bs xa oa xc oc NX OU, e = .returned (.tuple #[.agg #[.string ⟨bs.toArray⟩, .slice xa NX.length xc, .slice oa OU.length oc], .int .i64 0]) ∧ OfR w' w.heap.size (D.map PD.p) bs xa oa xc oc NX OU) ∧ Below w.heap.size w w' := by
  refine (of_any ao cap D w (fun d hd => by have := right_set_len hR d.p (List.mem_map.2 ⟨d, hd, rfl⟩); omega) hat).mono ?_
  rintro e w' ⟨h, x⟩
  exact ⟨h.yes hR, x⟩
end Go.Proofs.YtdgoilkgplnhfaaGreat
/-
  Parse, Of and Join with one shape of their answers. Condition: patterns of at most 2^32 bytes.
-/
namespace Go.Proofs.YtdgoilkgplnhfaaGreat
open Go.RowKit Go.Lib

/-- Parse, in one shape. -/
theorem parseQ_any (s : By) (w : World) (hl : s.length ≤ 4294967296) : Calls Tryz.prog 22 #[.string ⟨s.toArray⟩] w fun e w' => (∃ (ao : Option Addr) (n cap : Nat) (k m : Int), e = .returned (.tuple #[.slice ao n cap, .int .i64 k, .int .i64 m]) ∧ ((k = 0 ∧ ∃ D : List PD, n = D.length ∧ Rt (D.map PD.p) ∧ PcAt w' ao D) ∨ k = 50)) ∧ Below w.heap.size w w' := by
  refine (parseP_any s w hl).mono ?_
  rintro e w' ⟨hP, x⟩
  refine ⟨?_, x⟩
  rcases hP with ⟨ao, cap, D, rfl, hR, hat, _⟩ | ⟨n, rfl⟩
  · exact ⟨_, _, _, _, _, rfl, .inl ⟨rfl, D, rfl, hR, hat⟩⟩
  · exact ⟨_, _, _, _, _, rfl, .inr rfl⟩
/-- Of pieces that are right, in one shape. -/
theorem ofQ_any (ao : Option Addr) (cap : Nat) (D : List PD) (w : World) (hR : Rt (D.map PD.p)) (hat : PcAt w ao D) : Calls Tryz.prog 20 #[.slice ao D.length cap] w fun e w' => (∃ (bs : By) (xa : Option Addr) (xn xc : Nat) (oa : Option Addr) (on oc : Nat) (k : Int), e = .returned (.tuple #[.agg #[.string ⟨bs.toArray⟩, .slice xa xn xc, .slice oa on oc], .int .i64 k]) ∧ ((k = 0 ∧ ∃ NX OU : List Nat, xn = NX.length ∧ on = OU.length ∧ OfR w' w.heap.size (D.map PD.p) bs xa oa xc oc NX OU) ∨ k = 2)) ∧ Below w.heap.size w w' := by
  refine (ofR_any ao cap D w hR hat).mono ?_
  rintro e w' ⟨hP, x⟩
  refine ⟨?_, x⟩
  rcases hP with ⟨_, rfl⟩ | ⟨bs, xa, oa, xc, oc, NX, OU, rfl, h⟩
  · exact ⟨[], _, _, _, _, _, _, _, rfl, .inr rfl⟩
  · exact ⟨bs, _, _, _, _, _, _, _, rfl, .inl ⟨rfl, NX, OU, rfl, rfl, h⟩⟩
/-- Join, in one shape. -/
theorem joinQ_any (bsA bsB : By) (xA oA xB oB : Option Addr) (xAc oAc xBc oBc : Nat) (NA OA NB OB : List Nat) (w : World) (hA : AtA w bsA xA oA NA OA) (hB : AtA w bsB xB oB NB OB) :
    Calls Tryz.prog 23 #[.agg #[.string ⟨bsA.toArray⟩, .slice xA NA.length xAc, .slice oA OA.length oAc], .agg #[.string ⟨bsB.toArray⟩, .slice xB NB.length xBc, .slice oB OB.length oBc]] w fun e w' => (∃ (bs : By) (xa : Option Addr) (xn xc : Nat) (oa : Option Addr) (on oc : Nat) (ga : Option Addr) (gn gc : Nat) (k : Int), e = .returned (.tuple #[.agg #[.string ⟨bs.toArray⟩, .slice xa xn xc, .slice oa on oc], .slice ga gn gc, .int .i64 k]) ∧ ((k = 0 ∧ ∃ (NX OU : List Nat) (g : Nat) (P : List Spn), xn = NX.length ∧ on = OU.length ∧ ga = some ⟨g, 0, none⟩ ∧ gn = P.length ∧ JoR (dfA bsA NA OA) (dfA bsB NB OB) w' bs xa oa NX OU g gc P) ∨ k = 2)) ∧ Below w.heap.size w w' := by
  refine (join_any bsA bsB xA oA xB oB xAc oAc xBc oBc NA OA NB OB w hA hB).mono ?_
  rintro e w' ⟨hP, x⟩
  refine ⟨?_, x⟩
  rcases hP.yes with rfl | ⟨bs, xa, xc, oa, oc, NX, OU, g, c, P, rfl, h⟩
  · exact ⟨[], _, _, _, _, _, _, _, _, _, _, rfl, .inr rfl⟩
  · exact ⟨bs, _, _, _, _, _, _, _, _, _, _, rfl, .inl ⟨rfl, NX, OU, g, P, rfl, rfl, rfl, rfl, h⟩⟩
/-- Texts in memory. -/
def SAt (w : World) (ao : Option Addr) (L : List By) : Prop := L = [] ∨ ∃ b off, ao = some ⟨b, off, none⟩ ∧ b < w.heap.size ∧ ∀ i (h : i < L.length), w.cell? ⟨b, off + i, none⟩ = some (.string ⟨(L[i]).toArray⟩)
theorem SAt.below {w w' : World} {ao : Option Addr} {L : List By} (h : SAt w ao L) (x : Below w.heap.size w w') : SAt w' ao L := by
  rcases h with h | ⟨b, off, e, hb, h⟩
  · exact .inl h
  · exact .inr ⟨b, off, e, Nat.lt_of_lt_of_le hb x.size, fun i hi => (x.cell (p := ⟨b, off + i, none⟩) hb).trans (h i hi)⟩
theorem SAt.get {w : World} {ao : Option Addr} {L : List By} (h : SAt w ao L) {i : Nat} (hi : i < L.length) : ∃ b off, ao = some ⟨b, off, none⟩ ∧ w.cell? ⟨b, off + i, none⟩ = some (.string ⟨(L[i]).toArray⟩) := by
  rcases h with rfl | ⟨b, off, e, hb, h⟩
  · simp at hi
  · exact ⟨b, off, e, h i hi⟩
end Go.Proofs.YtdgoilkgplnhfaaGreat
/-
  Two views that grow by turns. Of no program's walk: the conditions are named.
-/
namespace Go.Proofs.YtdgoilkgplnhfaaGreat
open Go.RowKit Go.Lib

def zC (L : List Int) : List Value := L.map fun z => Value.int .i64 z
theorem zC_len (L : List Int) : (zC L).length = L.length := by simp [zC]
theorem app_two {base : Nat} {w0 w w6 : World} {v1 v2 v' x : Value} {n m : Nat} {xs ys : List Value} (hb0 : base = w0.heap.size) (o1 : w.ownsRow base 3 1 v1 n xs) (o2 : w.ownsRow base 3 1 v2 m ys) (ap : ∀ b, v1.ownBlock = some b → ¬ v2.ownBlock = some b) (bel : Below w0.heap.size w0 w) (g2 : AppAt (w.alloc (.cells #[x] 3)) w6 v1 v') :
    w6.ownsRow base 3 1 v2 m ys ∧ (∀ b, v'.ownBlock = some b → ¬ v2.ownBlock = some b) ∧ Below w0.heap.size w0 w6 := by
  have x5 : Below w.heap.size w (w.alloc (.cells #[x] 3)) := al (Below.refl _ _) _
  have o15 := own_below o1 x5
  have o25 := own_below o2 x5
  have b5 := bt bel x5 (Nat.le_refl _)
  have hk : ∃ F : Nat → Prop, Kept F (w.alloc (.cells #[x] 3)) w6 ∧ (∀ b, F b → v1.ownBlock = some b) := by
    rcases g2 with ⟨q, a, b, c⟩ | ⟨a, b⟩
    · exact ⟨fun b => some q = some b, kept_of_grown c, fun b hb => a.trans hb⟩
    · exact ⟨fun _ => False, Kept.of_below (below_of_grown a), fun b hb => hb.elim⟩
  obtain ⟨F, k6, hF⟩ := hk
  refine ⟨own_kept o25 k6 (fun b hb hf => ap b (hF b hf) hb), ?_, b5.trans (k6.below b5.size (fun i hf => by have := (World.ownsRow.lt o15 i (hF i hf)).1; omega))⟩
  intro b hv hb
  rcases g2 with ⟨q, a, c, _⟩ | ⟨_, c⟩
  · exact ap b (by rw [a, ← c]; exact hv) hb
  · have h1 := c b hv
    have h2 := (World.ownsRow.lt o2 b hb).2
    have h3 := x5.size
    omega
/-- Two views that read n and m of the pairs' sides. -/
structure PvS (w0 : World) (P : List Spn) (n m : Nat) (v1 v2 : Value) (w : World) : Prop where
  o1 : w.ownsRow w0.heap.size 3 1 v1 n (zC ((P.take n).map (·.1)))
  o2 : w.ownsRow w0.heap.size 3 1 v2 m (zC ((P.take m).map (·.2)))
  ap : ∀ b, v1.ownBlock = some b → ¬ v2.ownBlock = some b
  bel : Below w0.heap.size w0 w
theorem take_sn {P : List Spn} {f : Spn → Int} {n : Nat} (h : n < P.length) : zC ((P.take (n + 1)).map f) = zC ((P.take n).map f) ++ [.int .i64 (f (gQ P n))] := by
  rw [List.take_succ_eq_append_getElem h, gQ_lt h]
  unfold zC
  rw [List.map_append, List.map_append]
  rfl
section
variable {w0 w w' w6 : World} {P : List Spn} {n m : Nat} {v1 v2 v' : Value}
theorem PvS.below (h : PvS w0 P n m v1 v2 w) (x : Below w.heap.size w w') : PvS w0 P n m v1 v2 w' := ⟨own_below h.o1 x, own_below h.o2 x, h.ap, bt h.bel x (Nat.le_refl _)⟩
theorem PvS.app1 (h : PvS w0 P n m v1 v2 w) (hn : n < P.length) (g1 : w6.ownsRow w0.heap.size 3 1 v' (n + 1) (zC ((P.take n).map (·.1)) ++ [.int .i64 (gQ P n).1])) (g2 : AppAt (w.alloc (.cells #[.int .i64 (gQ P n).1] 3)) w6 v1 v') : PvS w0 P (n + 1) m v' v2 w6 := by
  obtain ⟨h1, h2, h3⟩ := app_two rfl h.o1 h.o2 h.ap h.bel g2
  exact ⟨by rw [take_sn hn]; exact g1, h1, h2, h3⟩
theorem PvS.app2 (h : PvS w0 P n m v1 v2 w) (hm : m < P.length) (g1 : w6.ownsRow w0.heap.size 3 1 v' (m + 1) (zC ((P.take m).map (·.2)) ++ [.int .i64 (gQ P m).2])) (g2 : AppAt (w.alloc (.cells #[.int .i64 (gQ P m).2] 3)) w6 v2 v') : PvS w0 P n (m + 1) v1 v' w6 := by
  obtain ⟨h1, h2, h3⟩ := app_two rfl h.o2 h.o1 (fun b h1 h2 => h.ap b h2 h1) h.bel g2
  exact ⟨h1, by rw [take_sn hm]; exact g1, fun b h4 h5 => h2 b h5 h4, h3⟩
theorem own_zat {base n : Nat} {L : List Int} {ao : Option Addr} {k cap : Nat} (h : w.ownsRow base 3 1 (.slice ao k cap) n (zC L)) : ZAt w ao L := by
  have hl := h.1
  rw [zC_len] at hl
  rcases h.2 with ⟨e1, e2⟩ | ⟨g, cp, cur, e1, hb, hg, hnc, hcm, hcs, htake⟩
  · refine .inl (List.eq_nil_of_length_eq_zero (by omega))
  · injection e1 with e1 e2 e3
    refine .inr ⟨g, 0, e1, lt_of_block hg, fun i hi => ?_⟩
    rw [Nat.zero_add, cell_of_row _ _ _ _ _ _ hg]
    have h2 : (zC L)[i]? = some (.int .i64 L[i]) := by simp [zC, hi]
    rw [← htake, List.getElem?_take, if_pos (by omega)] at h2
    simpa using h2
theorem own_sl {base n : Nat} {L : List Int} {v : Value} (h : w.ownsRow base 3 1 v n (zC L)) : ∃ ao cap, v = .slice ao n cap ∧ ZAt w ao L := by
  rcases h.2 with ⟨e1, e2⟩ | ⟨g, cp, cur, e1, _⟩
  · subst e1
    exact ⟨none, 0, by rw [e2], own_zat h⟩
  · subst e1
    exact ⟨_, _, rfl, own_zat h⟩
end
end Go.Proofs.YtdgoilkgplnhfaaGreat
