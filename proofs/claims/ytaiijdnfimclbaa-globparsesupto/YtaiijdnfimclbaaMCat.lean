/-
  Two rows of pieces, one behind the other: what they match; what Parse tells is right. No condition.
-/
import Derived.Test.YtaiijdnfimclbaaMMat
namespace Go.Proofs.Ytaiijdnfimclbaa

theorem mM_left {L1 L2 : List Pc} {i : Nat} (h : i < L1.length) : mM (L1 ++ L2) i = mM L1 i := by
  unfold mM
  rw [List.getD_eq_getElem?_getD, List.getElem?_append_left h, List.getD_eq_getElem?_getD]
theorem mT_left {L1 L2 : List Pc} {i : Nat} (h : i < L1.length) (c : UInt8) : mT (L1 ++ L2) i c = mT L1 i c := by
  unfold mT
  rw [List.getD_eq_getElem?_getD, List.getElem?_append_left h, List.getD_eq_getElem?_getD]
theorem mM_right (L1 L2 : List Pc) (j : Nat) : mM (L1 ++ L2) (L1.length + j) = mM L2 j := by
  unfold mM
  rw [List.getD_eq_getElem?_getD, List.getElem?_append_right (by omega), Nat.add_sub_cancel_left, List.getD_eq_getElem?_getD]
theorem mT_right (L1 L2 : List Pc) (j : Nat) (c : UInt8) : mT (L1 ++ L2) (L1.length + j) c = mT L2 j c := by
  unfold mT
  rw [List.getD_eq_getElem?_getD, List.getElem?_append_right (by omega), Nat.add_sub_cancel_left, List.getD_eq_getElem?_getD]
theorem rm_left (L1 L2 : List Pc) : ∀ (v : By) (i : Nat), i ≤ L1.length → rm (L1 ++ L2) i v = rm L1 i v
  | [], 0, _ => by rw [rm_00, rm_00]
  | c :: v, 0, _ => by rw [rm_0c, rm_0c]
  | [], i + 1, h => by rw [rm_s0, rm_s0, mM_left (by omega), rm_left L1 L2 [] i (by omega)]
  | c :: v, i + 1, h => by rw [rm_sc, rm_sc, mM_left (by omega), mT_left (by omega), rm_left L1 L2 (c :: v) i (by omega), rm_left L1 L2 v (i + 1) h, rm_left L1 L2 v i (by omega)]
termination_by v i => (v.length, i)
theorem rm_cat (L1 L2 : List Pc) : ∀ (v : By) (j : Nat), rm (L1 ++ L2) (L1.length + j) v = true ↔ ∃ a b, v = a ++ b ∧ rm L2 j a = true ∧ rm L1 L1.length b = true
  | v, 0 => by
    rw [Nat.add_zero, rm_left L1 L2 v _ (Nat.le_refl _)]
    constructor
    · exact fun h => ⟨[], v, rfl, rm_00 L2, h⟩
    · rintro ⟨a, b, rfl, h1, h2⟩
      cases a with
      | nil => exact h2
      | cons c a => rw [rm_0c] at h1; cases h1
  | [], j + 1 => by
    rw [← Nat.add_assoc, rm_s0, mM_right]
    constructor
    · intro h
      simp only [Bool.and_eq_true] at h
      obtain ⟨a, b, h1, h2, h3⟩ := (rm_cat L1 L2 [] j).1 h.2
      have ha : a = [] := by cases a with | nil => rfl | cons c a => cases h1
      have hb : b = [] := by cases b with | nil => rfl | cons c b => rw [ha] at h1; cases h1
      subst ha hb
      exact ⟨[], [], rfl, by rw [rm_s0, h.1, h2]; rfl, h3⟩
    · rintro ⟨a, b, h1, h2, h3⟩
      have ha : a = [] := by cases a with | nil => rfl | cons c a => cases h1
      have hb : b = [] := by cases b with | nil => rfl | cons c b => rw [ha] at h1; cases h1
      subst ha hb
      rw [rm_s0] at h2
      simp only [Bool.and_eq_true] at h2
      rw [h2.1, (rm_cat L1 L2 [] j).2 ⟨[], [], rfl, h2.2, h3⟩]
      rfl
  | c :: v, j + 1 => by
    rw [← Nat.add_assoc, rm_sc, mM_right, mT_right]
    have ih1 := rm_cat L1 L2 (c :: v) j
    have ih2 := rm_cat L1 L2 v (j + 1)
    have ih3 := rm_cat L1 L2 v j
    rw [← Nat.add_assoc] at ih2
    cases hM : mM L2 j with
    | true =>
      rw [if_pos rfl]
      simp only [Bool.or_eq_true, Bool.and_eq_true]
      constructor
      · rintro (h | ⟨hT, h⟩)
        · obtain ⟨a, b, h1, h2, h3⟩ := ih1.1 h
          refine ⟨a, b, h1, ?_, h3⟩
          cases a with
          | nil => rw [rm_s0, hM, h2]; rfl
          | cons d a => rw [rm_sc, hM, if_pos rfl, h2]; rfl
        · obtain ⟨a, b, h1, h2, h3⟩ := ih2.1 h
          refine ⟨c :: a, b, by rw [h1]; rfl, ?_, h3⟩
          rw [rm_sc, hM, if_pos rfl, hT, h2]
          simp
      · rintro ⟨a, b, h1, h2, h3⟩
        cases a with
        | nil =>
          rw [rm_s0, hM, Bool.true_and] at h2
          exact .inl (ih1.2 ⟨[], b, h1, h2, h3⟩)
        | cons d a =>
          injection h1 with e1 e2
          subst e1
          rw [rm_sc, hM, if_pos rfl] at h2
          simp only [Bool.or_eq_true, Bool.and_eq_true] at h2
          rcases h2 with h2 | ⟨hT, h2⟩
          · exact .inl (ih1.2 ⟨c :: a, b, by rw [e2]; rfl, h2, h3⟩)
          · exact .inr ⟨hT, ih2.2 ⟨a, b, e2, h2, h3⟩⟩
    | false =>
      rw [if_neg (by decide)]
      simp only [Bool.and_eq_true]
      constructor
      · rintro ⟨hT, h⟩
        obtain ⟨a, b, h1, h2, h3⟩ := ih3.1 h
        refine ⟨c :: a, b, by rw [h1]; rfl, ?_, h3⟩
        rw [rm_sc, hM, if_neg (by decide), hT, h2]
        rfl
      · rintro ⟨a, b, h1, h2, h3⟩
        cases a with
        | nil => rw [rm_s0, hM] at h2; cases h2
        | cons d a =>
          injection h1 with e1 e2
          subst e1
          rw [rm_sc, hM, if_neg (by decide)] at h2
          simp only [Bool.and_eq_true] at h2
          exact ⟨h2.1, ih3.2 ⟨a, b, e2, h2.2, h3⟩⟩
termination_by v j => (v.length, j)
/-- Some beginning is matched by the former, the rest by the latter. -/
def cutsB (L1 L2 : List Pc) (s : By) (k : Nat) : Bool := (List.range k).any fun n => mtF L1 (s.take n) L1.length && mtF L2 (s.drop n) L2.length
theorem cutsB_succ (L1 L2 : List Pc) (s : By) (k : Nat) : cutsB L1 L2 s (k + 1) = (cutsB L1 L2 s k || (mtF L1 (s.take k) L1.length && mtF L2 (s.drop k) L2.length)) := by
  unfold cutsB
  rw [List.range_succ, List.any_append]
  simp
theorem match_cat (L1 L2 : List Pc) (s : By) : mtF (L1 ++ L2) s (L1 ++ L2).length = cutsB L1 L2 s (s.length + 1) := by
  rw [mtF_is, List.length_append, Bool.eq_iff_iff, rm_cat]
  unfold cutsB
  simp only [List.any_eq_true, List.mem_range, Bool.and_eq_true, mtF_is]
  constructor
  · rintro ⟨a, b, h1, h2, h3⟩
    have hs : s = b.reverse ++ a.reverse := by rw [← List.reverse_append, ← h1, List.reverse_reverse]
    refine ⟨b.length, by rw [hs]; simp; omega, ?_, ?_⟩
    · rw [hs, show b.length = b.reverse.length by simp, List.take_left, List.reverse_reverse]; simpa using h3
    · rw [hs, show b.length = b.reverse.length by simp, List.drop_left, List.reverse_reverse]; exact h2
  · rintro ⟨n, hn, h1, h2⟩
    exact ⟨(s.drop n).reverse, (s.take n).reverse, by rw [← List.reverse_append, List.take_append_drop], h2, h1⟩
/-- A piece that takes many begins with a star; behind a Star none stands. -/
theorem pcL_star {r t : By} {p : Pc} (h : pcL r = .ok (p, t)) : (manyK p.kind = true → [42].isPrefixOf r = true) ∧ (p.kind = 4 → [42].isPrefixOf t = false) := by
  unfold pcL at h
  split at h
  · rename_i hb
    injection h with h; injection h with h1 h2; subst h1 h2
    refine ⟨fun _ => ?_, fun h => absurd (show (5 : Int) = 4 from h) (by decide)⟩
    obtain ⟨t, rfl⟩ := List.isPrefixOf_iff_prefix.1 hb
    rfl
  · rename_i hb0
    split at h
    · rename_i hb
      injection h with h; injection h with h1 h2; subst h1 h2
      refine ⟨fun _ => hb, fun _ => ?_⟩
      obtain ⟨t, rfl⟩ := List.isPrefixOf_iff_prefix.1 hb
      cases ht : [42].isPrefixOf (([42] ++ t).drop 1) with
      | false => rfl
      | true =>
        exfalso
        apply hb0
        obtain ⟨u, hu⟩ := List.isPrefixOf_iff_prefix.1 ht
        simp at hu
        subst hu
        rfl
    · split at h
      · injection h with h; injection h with h1 h2; subst h1 h2
        exact ⟨fun h => absurd (show manyK 2 = true from h) (by decide), fun h => absurd (show (2 : Int) = 4 from h) (by decide)⟩
      · split at h
        · obtain ⟨_, _, _, hk⟩ := stL_ok h
          exact ⟨fun h => by rw [hk] at h; exact absurd h (by decide), fun h => by rw [hk] at h; exact absurd h (by decide)⟩
        · split at h
          · cases h
          · injection h with h; injection h with h1 h2; subst h1 h2
            exact ⟨fun h => absurd (show manyK 1 = true from h) (by decide), fun h => absurd (show (1 : Int) = 4 from h) (by decide)⟩
theorem getD_snoc_lt {A : List Pc} {p : Pc} {i : Nat} (h : i < A.length) : (A ++ [p]).getD i zPc = A.getD i zPc := by
  rw [List.getD_eq_getElem?_getD, List.getElem?_append_left h, List.getD_eq_getElem?_getD]
theorem getD_snoc_eq {A : List Pc} {p : Pc} : (A ++ [p]).getD A.length zPc = p := by
  rw [List.getD_eq_getElem?_getD, List.getElem?_append_right (Nat.le_refl _), Nat.sub_self]
  rfl
theorem Rt.snoc {A : List Pc} {p : Pc} (h : Rt A) (hl : A.length < 64) (hp : Rp p) (ha : ∀ i, i + 1 = A.length → (A.getD i zPc).kind = 4 → manyK p.kind = false) : Rt (A ++ [p]) := by
  refine ⟨by rw [List.length_append, List.length_singleton]; omega, fun q hq => ?_, fun i hi => ?_⟩
  · rcases List.mem_append.1 hq with hq | hq
    · exact h.2.1 q hq
    · rw [List.mem_singleton.1 hq]; exact hp
  · rw [List.length_append, List.length_singleton] at hi
    by_cases h1 : i + 1 < A.length
    · rw [getD_snoc_lt (by omega), getD_snoc_lt h1]; exact h.2.2 i h1
    · have h2 : i + 1 = A.length := by omega
      rw [getD_snoc_lt (by omega), h2, getD_snoc_eq]
      rintro ⟨h3, h4⟩
      rw [ha i h2 h3] at h4
      cases h4
theorem psL_right : ∀ {n : Nat} {r : By} {A L : List Pc}, psL n r A = .ok L → Rt A → (∀ i, i + 1 = A.length → (A.getD i zPc).kind = 4 → [42].isPrefixOf r = false) → Rt L
  | 0, r, A, L, h, _, _ => by cases h
  | n + 1, r, A, L, h, hA, ha => by
    unfold psL at h
    split at h
    · injection h with h; subst h; exact hA
    · split at h
      · cases h
      · rename_i h64
        split at h
        · cases h
        · rename_i p t hp
          obtain ⟨a1, a2, a3⟩ := pcL_ok hp
          obtain ⟨b1, b2⟩ := pcL_star hp
          refine psL_right h (hA.snoc (by have := hA.1; omega) a3 (fun i h1 h2 => ?_)) (fun i h1 h2 => ?_)
          · cases hm : manyK p.kind with
            | false => rfl
            | true => have := ha i h1 h2; rw [b1 hm] at this; cases this
          · have h3 : i = A.length := by rw [List.length_append, List.length_singleton] at h1; omega
            subst h3
            rw [getD_snoc_eq] at h2
            exact b2 h2
theorem Rt.nil : Rt [] := ⟨by decide, fun p hp => (by cases hp), fun i hi => absurd hi (by simp)⟩
theorem parL_right {s : By} {L : List Pc} (h : parL s = .ok L) : Rt L := psL_right h Rt.nil (fun i hi => absurd hi (by simp))
/-- Why two right rows are not right together. -/
theorem not_right_cat {L1 L2 : List Pc} (h1 : Rt L1) (h2 : Rt L2) (h : ¬ Rt (L1 ++ L2)) (h64 : (L1 ++ L2).length ≤ 64) : 0 < L1.length ∧ 0 < L2.length ∧ (L1.getD (L1.length - 1) zPc).kind = 4 ∧ 4 ≤ (L2.getD 0 zPc).kind := by
  apply Classical.byContradiction
  intro hc
  apply h
  refine ⟨h64, fun p hp => ?_, fun i hi => ?_⟩
  · rcases List.mem_append.1 hp with hp | hp
    · exact h1.2.1 p hp
    · exact h2.2.1 p hp
  · rw [List.length_append] at hi
    rw [List.getD_eq_getElem?_getD, List.getD_eq_getElem?_getD]
    by_cases ha : i + 1 < L1.length
    · rw [List.getElem?_append_left (by omega), List.getElem?_append_left ha, ← List.getD_eq_getElem?_getD, ← List.getD_eq_getElem?_getD]
      exact h1.2.2 i ha
    · by_cases hb : i < L1.length
      · have e : i = L1.length - 1 := by omega
        rw [List.getElem?_append_left hb, List.getElem?_append_right (by omega), show i + 1 - L1.length = 0 by omega, ← List.getD_eq_getElem?_getD, ← List.getD_eq_getElem?_getD, e]
        rintro ⟨h3, h4⟩
        apply hc
        refine ⟨by omega, by omega, h3, ?_⟩
        unfold manyK at h4
        simp only [Bool.or_eq_true, decide_eq_true_eq] at h4
        omega
      · rw [List.getElem?_append_right (by omega), List.getElem?_append_right (by omega), show i + 1 - L1.length = (i - L1.length) + 1 by omega, ← List.getD_eq_getElem?_getD, ← List.getD_eq_getElem?_getD]
        exact h2.2.2 _ (by omega)
end Go.Proofs.Ytaiijdnfimclbaa
