/-
  A list that is lent: a copy of it, and three behind it. Condition: the list is no longer than 2^26.
-/
import Derived.Test.YtfjifedfenpbbaaDoorCp
import Derived.Test.YtfjifedfenpbbaaDoorRefW
namespace Go.Proofs.YtfjifedfenpbbaaDoor
open Go.RowKit Go.Lib

theorem SpAt.take {w : World} {b off : Nat} {L : List Spn} (h : SpAt w (some ⟨b, off, none⟩) L) (m : Nat) : SpAt w (some ⟨b, off, none⟩) (L.take m) := by
  rcases h with rfl | ⟨b', off', e, hlt, h⟩
  · exact .inl (by simp)
  · cases e
    refine .inr ⟨b, off, rfl, hlt, fun i hi => ?_⟩
    rw [List.length_take] at hi
    have := h i (by omega)
    rwa [show (L.take m).getD i (0, 0) = L.getD i (0, 0) by simp [List.getD_eq_getElem?_getD, show i < m by omega]]
theorem made_zero (n : Nat) : (madeCells (Value.agg #[.int .i64 0, .int .i64 0]).cells (n * 2)).toList = spCells (List.replicate n (0, 0)) := by
  have e : (Value.agg #[.int .i64 0, .int .i64 0]).cells = #[.int .i64 0, .int .i64 0] := by simp [Value.cells]
  rw [e]
  apply List.ext_getElem?
  intro j
  by_cases hj : j < n * 2
  · have h1 : (madeCells #[Value.int .i64 0, .int .i64 0] (n * 2)).toList[j]? = some (.int .i64 0) := by
      have : j % 2 = 0 ∨ j % 2 = 1 := by omega
      rcases this with h | h <;> simp [madeCells, hj, h]
    rw [h1]
    have h2 := spCells_get (List.replicate n ((0, 0) : Spn)) (j / 2) (by rw [List.length_replicate]; omega)
    have e2 : (List.replicate n ((0, 0) : Spn)).getD (j / 2) (0, 0) = (0, 0) := by
      simp [List.getD_eq_getElem?_getD, List.getElem?_replicate]; split <;> rfl
    rw [e2] at h2
    rcases (by omega : j = j / 2 * 2 ∨ j = j / 2 * 2 + 1) with h | h
    · rw [h]; exact h2.1.symm
    · rw [h]; exact h2.2.symm
  · rw [List.getElem?_eq_none (by simp [size_madeCells]; omega), List.getElem?_eq_none (by rw [spCells_length, List.length_replicate]; omega)]
theorem full_cur {w : World} {base g n : Nat} {xs : List Value} (h : w.ownsRow base 36 2 (.slice (some ⟨g, 0, none⟩) n n) n xs) : ∃ cur, w.heap[g]? = some (.cells cur 36 (0, 0)) ∧ cur.toList = xs ∧ base ≤ g ∧ n ≤ maxLen := by
  rcases h.2 with ⟨h', _⟩ | ⟨g', cap', cur, h', hb, hg, hnc, hcm, hcs, htake⟩
  · simp at h'
  · simp only [Value.slice.injEq, Option.some.injEq, Addr.mk.injEq, and_true, true_and] at h'
    obtain ⟨rfl, rfl⟩ := h'
    exact ⟨cur, hg, by rw [← htake, List.take_of_length_le (by simp; omega)], hb, hcm⟩
theorem own_set {w : World} {base g n : Nat} {L' : List Spn} {cur : Array Value} (hg : w.heap[g]? = some (.cells cur 36 (0, 0))) (hb : base ≤ g) (hn : L'.length = n) (hm : n ≤ maxLen) : OwnT 36 (w.setRow g (spCells L').toArray) base (.slice (some ⟨g, 0, none⟩) n n) L' := by
  unfold OwnT
  rw [hn]
  exact ⟨by rw [spCells_length, hn], .inr ⟨g, n, (spCells L').toArray, rfl, hb, setRow_heap w g cur _ 36 _ hg, Nat.le_refl _, hm, by simp [spCells_length, hn], by simp [List.take_of_length_le, spCells_length, hn]⟩⟩
theorem Tryd.size36 : (Tryd.prog.info? 36).map (·.size) = some 2 := by
  obtain ⟨i0, hi, hz0, hz1, hz2⟩ := Tryd.info36'
  rw [hi]; simp [hz1]
/-- The list, and m behind it. -/
def lentZ (L : List Spn) : List Spn := L ++ List.replicate 3 (0, 0)
theorem lentZ_length (L : List Spn) : (lentZ L).length = L.length + 3 := by simp [lentZ]
theorem lent_copied {w w1 : World} {ao : Option Addr} {L : List Spn} (hat : SpAt w ao L) (h1 : w1.ownsRow w.heap.size 36 2 (.slice (some ⟨w.heap.size, 0, none⟩) (L.length + 3) (L.length + 3)) (L.length + 3) (madeCells (Value.agg #[.int .i64 0, .int .i64 0]).cells ((L.length + 3) * 2)).toList) (h2 : w.grownBy w1 none) :
    ∃ cur : Array Value, w1.heap[w.heap.size]? = some (.cells cur 36 (0, 0)) ∧ (∀ ad, ao = some ad → ∀ j v, (spCells L)[j]? = some v → w1.cell? (ad.add j) = some v) ∧ (ao = none → L.length = 0) ∧ (spCells L).length ≤ cur.size ∧
      OwnT 36 (w1.setRow w.heap.size (spCells L ++ cur.toList.drop (spCells L).length).toArray) w.heap.size (.slice (some ⟨w.heap.size, 0, none⟩) (L.length + 3) (L.length + 3)) (lentZ L) ∧ Below w.heap.size w (w1.setRow w.heap.size (spCells L ++ cur.toList.drop (spCells L).length).toArray) := by
  obtain ⟨cur, hg, hc, hb, hm⟩ := full_cur h1
  rw [made_zero] at hc
  have hbl : Below w.heap.size w w1 := (Below.refl _ _).grown h2 (Nat.le_refl _) (fun k hk => by cases hk)
  have e : spCells L ++ cur.toList.drop (spCells L).length = spCells (lentZ L) := by
    unfold lentZ
    rw [hc, spCells_append, ← List.replicate_append_replicate, spCells_append, spCells_length]
    rw [List.drop_append_of_le_length (by rw [spCells_length, List.length_replicate]; omega), List.drop_of_length_le (by rw [spCells_length, List.length_replicate]; omega)]
    rfl
  refine ⟨cur, hg, fun ad h => by subst h; exact (hat.below hbl).cells, fun h => ?_, ?_, ?_, below_setRow hbl (Nat.le_refl _) _⟩
  · subst h
    rcases hat with h | ⟨b, off, e, _⟩
    · rw [h]; rfl
    · cases e
  · have := congrArg List.length hc
    rw [spCells_length, List.length_replicate, Array.length_toList] at this
    rw [spCells_length]; omega
  · rw [e]
    exact own_set hg hb (lentZ_length L) hm

theorem lentZ_at {w : World} {base g n : Nat} {L : List Spn} (h : OwnT 36 w base (.slice (some ⟨g, 0, none⟩) n n) (lentZ L)) : SpAt w (some ⟨g, 0, none⟩) L := by
  obtain ⟨a, c, e, h1, _⟩ := h.shape
  injection e with e1 e2 e3
  subst e1
  have := h1.take L.length
  rwa [show (lentZ L).take L.length = L by simp [lentZ]] at this
/-- The first k struck. -/
def struckZ (L : List Spn) (k : Nat) : List Spn := List.replicate k (9, 9) ++ (lentZ L).drop k
theorem struckZ_length (L : List Spn) (k : Nat) (hk : k ≤ L.length + 3) : (struckZ L k).length = L.length + 3 := by
  unfold struckZ
  rw [List.length_append, List.length_replicate, List.length_drop, lentZ_length]
  omega
theorem struckZ_zero (L : List Spn) : struckZ L 0 = lentZ L := by simp [struckZ]
theorem struckZ_get (L : List Spn) (k : Nat) (hk : k < L.length + 3) : (struckZ L k).getD k (0, 0) = L.getD k (0, 0) := by
  unfold struckZ
  rw [List.getD_eq_getElem?_getD, List.getElem?_append_right (by simp), List.length_replicate, Nat.sub_self, List.getElem?_drop, Nat.add_zero]
  unfold lentZ
  by_cases h : k < L.length
  · rw [List.getElem?_append_left h, List.getD_eq_getElem?_getD]
  · rw [List.getElem?_append_right (by omega), List.getD_eq_getElem?_getD, List.getElem?_eq_none (by omega : L.length ≤ k)]
    rw [List.getElem?_replicate]
    split <;> rfl
theorem struckZ_set (L : List Spn) (k : Nat) (hk : k < L.length + 3) : ((spCells (struckZ L k)).set (k * 2) (.int .i64 9)).set (k * 2 + 1) (.int .i64 9) = spCells (struckZ L (k + 1)) := by
  have hl := lentZ_length L
  have e1 : (lentZ L).drop k = (lentZ L)[k]'(by omega) :: (lentZ L).drop (k + 1) := List.drop_eq_getElem_cons (by omega)
  have e2 : struckZ L (k + 1) = List.replicate k (9, 9) ++ (9, 9) :: (lentZ L).drop (k + 1) := by
    unfold struckZ
    rw [List.replicate_succ', List.append_assoc]
    rfl
  have hc : (spCells (List.replicate k ((9, 9) : Spn))).length = k * 2 := by rw [spCells_length, List.length_replicate]
  rw [e2]
  unfold struckZ
  rw [e1, spCells_append, spCells_append, List.set_append_right _ _ (by omega), List.set_append_right _ _ (by omega), hc]
  rw [Nat.sub_self, show k * 2 + 1 - k * 2 = 1 by omega]
  rfl

/-- What Cover answers. -/
def CV (L : List Spn) : List Spn := if IsSet L then covL L else []
def EV (L : List Spn) : Int := if IsSet L then 0 else 1
theorem cover_all (ao : Option Addr) (cap : Nat) (L : List Spn) (w : World) (hl : L.length ≤ 140737488351232) (hat : SpAt w ao L) :
    Calls Tryd.prog 20 #[.slice ao L.length cap] w fun e w' => (∃ v, e = .returned (.tuple #[v, .int .i64 (EV L)]) ∧ OwnT 28 w' w.heap.size v (CV L)) ∧ Below w.heap.size w w' :=
  (cover_any ao cap L w hl hat).mono fun e w' ⟨h, x⟩ => by
    rcases h with ⟨hs, v, h1, h2⟩ | ⟨hs, h1⟩
    · exact ⟨⟨v, by rw [h1, EV, if_pos hs], by rw [CV, if_pos hs]; exact h2⟩, x⟩
    · exact ⟨⟨_, by rw [h1, EV, if_neg hs], by rw [CV, if_neg hs]; exact OwnT.nil _ _ _⟩, x⟩
theorem refCover_all (ao : Option Addr) (cap : Nat) (L : List Spn) (w : World) (hl : L.length ≤ 140737488351232) (hat : SpAt w ao L) :
    Calls Tryd.prog 21 #[.slice ao L.length cap] w fun e w' => (∃ v, e = .returned (.tuple #[v, .int .i64 (EV L)]) ∧ OwnT 28 w' w.heap.size v (CV L)) ∧ Below w.heap.size w w' :=
  (refCover_any ao cap L w hl hat).mono fun e w' ⟨h, x⟩ => by
    rcases h with ⟨hs, v, h1, h2⟩ | ⟨hs, h1⟩
    · exact ⟨⟨v, by rw [h1, EV, if_pos hs], by rw [CV, if_pos hs]; exact h2⟩, x⟩
    · exact ⟨⟨_, by rw [h1, EV, if_neg hs], by rw [CV, if_neg hs]; exact OwnT.nil _ _ _⟩, x⟩
theorem CV_len (L : List Spn) : (CV L).length ≤ 4294967296 := by
  unfold CV
  split
  · rename_i hs
    have := covL_len L hs.1
    have := (sizeL_le hs).2
    omega
  · simp

theorem addsUp_any (n m : Nat) (hn : n ≤ 140737488351232) (hm : m ≤ 140737488351232) (w : World) : Calls Tryd.prog 19 #[.int .i64 n, .int .i64 m] w fun e w' => e = .returned (.int .i64 (if 2147483647 < n ∨ 2147483647 < m then 2147483648 else (n : Int) + m)) ∧ w' = w := by
  by_cases h1 : (2147483647 : Int) < n
  · rw [if_pos (.inl (by omega))]
    go_enter Tryd.func19, Tryd.ntmps19
    go_wp2
    go_ret
    exact ⟨rfl, rfl⟩
  · by_cases h2 : (2147483647 : Int) < m
    · rw [if_pos (.inr (by omega))]
      go_enter Tryd.func19, Tryd.ntmps19
      go_wp2
      go_ret
      exact ⟨rfl, rfl⟩
    · rw [if_neg (by omega)]
      go_enter Tryd.func19, Tryd.ntmps19
      go_wp2
      go_ret
      exact ⟨rfl, rfl⟩

set_option maxRecDepth 100000 in
set_option maxHeartbeats 1000000 in
/-- prefixes: of the same ones. -/
theorem prefixes_any (a1 a2 : Option Addr) (c1 c2 : Nat) (A : List Spn) (w : World) (hl : A.length ≤ 140737488351232) (h1 : SpAt w a1 A) (h2 : SpAt w a2 A) :
    Calls Tryd.prog 22 #[.slice a1 A.length c1, .slice a2 A.length c2] w fun e w' => e = .returned (.bool true) ∧ Below w.heap.size w w' := by
  go_enter Tryd.func22, Tryd.ntmps22
  go_wp2
  go_loopw [5] (fun x wq => ∃ j : Nat, j ≤ A.length ∧ x = .int .i64 j ∧ Below w.heap.size w wq) (fun x _ => A.length - (RowKit.intOf x).toNat)
  case atStart => exact ⟨0, Nat.zero_le _, rfl, Below.refl _ _⟩
  case round =>
    obtain ⟨j, hj, rfl, hq⟩ := hrel
    have HQ := hide hq
    clear hq
    by_cases hlt : j < A.length
    · have hlt2 : (j : Int) < A.length := by omega
      obtain ⟨b1, f1, rfl, hb1, hc1⟩ := h1.get hlt
      obtain ⟨b2, f2, rfl, hb2, hc2⟩ := h2.get hlt
      obtain ⟨d1, d2⟩ := (hc1 j hlt).below HQ.out hb1
      obtain ⟨d3, d4⟩ := (hc2 j hlt).below HQ.out hb2
      generalize A.getD j (0, 0) = s at *
      clear hc1 hc2 h1 h2
      go_wp2
      go_region
      go_wp2
      go_roundw
      case rel => exact ⟨j + 1, by omega, by go_num, HQ.out.drew⟩
      case measure => simp [RowKit.intOf]; omega
    · have hlt2 : ¬ (j : Int) < A.length := by omega
      go_wp2
      go_ret
      exact ⟨rfl, HQ.out⟩
end Go.Proofs.YtfjifedfenpbbaaDoor
