/-
  lentInts, wholeInts by their contracts. Condition: the list is no longer than a process can hold.
-/
import Derived.Test.YtnfdjbaafiifnaaP24
import Derived.Test.YtnfdjbaafiifnaaP19
namespace Go.Proofs.Ytnfdjbaafiifnaa
open Go.RowKit Go.Lib

def izC (L : List Int) : List Value := L.map fun n => .int .i64 n
theorem izC_length (L : List Int) : (izC L).length = L.length := by simp [izC]
theorem izC_one (L : List Int) : ∀ v ∈ izC L, v.oneCell' = true := by
  intro v hv
  unfold izC at hv
  obtain ⟨r, _, rfl⟩ := List.mem_map.1 hv
  rfl
def OwnI (w : World) (base : Nat) (v : Value) (L : List Int) : Prop := w.ownsRow base 3 1 v L.length (izC L)
theorem Try.size3 : (Try.prog.info? 3).map (·.size) = some 1 := by
  obtain ⟨i0, hi, hz0, hz1, hz2⟩ := info_parts Try.info3
  rw [hi]; simp [hz1]
def lenI (L : List Int) : List Int := L ++ [0, 0, 0]
theorem lenI_length (L : List Int) : (lenI L).length = L.length + 3 := by simp [lenI]
theorem madeI_zero (n : Nat) : (madeCells (Value.int .i64 0).cells (n * 1)).toList = izC (List.replicate n 0) := by
  have e : (Value.int .i64 0).cells = #[.int .i64 0] := by simp [Value.cells]
  rw [e, Nat.mul_one]
  apply List.ext_getElem?
  intro j
  by_cases hj : j < n
  · have h1 : (madeCells #[Value.int .i64 0] n).toList[j]? = some (.int .i64 0) := by simp [madeCells, hj, Nat.mod_one]
    rw [h1]
    simp [izC, hj]
  · rw [List.getElem?_eq_none (by simp [size_madeCells]; omega), List.getElem?_eq_none (by rw [izC_length, List.length_replicate]; omega)]
theorem ZAt.cellsI {w : World} {ad : Addr} {L : List Int} (h : ZAt w (some ad) L) : ∀ j v, (izC L)[j]? = some v → w.cell? (ad.add j) = some v := by
  intro j v hv
  rcases h with rfl | ⟨b, off, e, hlt, hc⟩
  · simp [izC] at hv
  · cases e
    have hj : j < L.length := by
      have := (List.getElem?_eq_some_iff.1 hv).1
      rwa [izC_length] at this
    have := hc j hj
    rw [show (⟨b, off, none⟩ : Addr).add j = ⟨b, off + j, none⟩ by unfold Addr.add; split <;> simp_all, this]
    rw [← hv]
    simp [izC, hj, List.getD_eq_getElem?_getD]
theorem lenI_copied {w w1 : World} {ao : Option Addr} {L : List Int} (hat : ZAt w ao L) (h1 : w1.ownsRow w.heap.size 3 1 (.slice (some ⟨w.heap.size, 0, none⟩) (L.length + 3) (L.length + 3)) (L.length + 3) (madeCells (Value.int .i64 0).cells ((L.length + 3) * 1)).toList) (h2 : w.grownBy w1 none) :
    ∃ cur : Array Value, w1.heap[w.heap.size]? = some (.cells cur 3 (0, 0)) ∧ (∀ ad, ao = some ad → ∀ j v, (izC L)[j]? = some v → w1.cell? (ad.add j) = some v) ∧ (ao = none → L.length = 0) ∧ (izC L).length ≤ cur.size ∧
      OwnI (w1.setRow w.heap.size (izC L ++ cur.toList.drop (izC L).length).toArray) w.heap.size (.slice (some ⟨w.heap.size, 0, none⟩) (L.length + 3) (L.length + 3)) (lenI L) ∧ Below w.heap.size w (w1.setRow w.heap.size (izC L ++ cur.toList.drop (izC L).length).toArray) := by
  obtain ⟨cur, hg, hc, hb, hm⟩ : ∃ cur, w1.heap[w.heap.size]? = some (.cells cur 3 (0, 0)) ∧ cur.toList = (madeCells (Value.int .i64 0).cells ((L.length + 3) * 1)).toList ∧ w.heap.size ≤ w.heap.size ∧ L.length + 3 ≤ maxLen := by
    rcases h1.2 with ⟨h', _⟩ | ⟨g', cap', cur, h', hb, hg, hnc, hcm, hcs, htake⟩
    · simp at h'
    · simp only [Value.slice.injEq, Option.some.injEq, Addr.mk.injEq, and_true, true_and] at h'
      obtain ⟨h5, h6⟩ := h'
      subst h6
      rw [← h5] at hg
      exact ⟨cur, hg, by rw [← htake, List.take_of_length_le (by simp; omega)], Nat.le_refl _, hcm⟩
  rw [madeI_zero] at hc
  have hbl : Below w.heap.size w w1 := (Below.refl _ _).grown h2 (Nat.le_refl _) (fun k hk => by cases hk)
  have e : izC L ++ cur.toList.drop (izC L).length = izC (lenI L) := by
    unfold lenI
    rw [hc, izC_length, show L.length + 3 = L.length + 3 from rfl]
    simp [izC]
  refine ⟨cur, hg, fun ad h => by subst h; exact (hat.below hbl).cellsI, fun h => ?_, ?_, ?_, below_setRow hbl (Nat.le_refl _) _⟩
  · subst h
    rcases hat with h | ⟨b, off, e, _⟩
    · rw [h]; rfl
    · cases e
  · have := congrArg List.length hc
    rw [izC_length, List.length_replicate, Array.length_toList] at this
    rw [izC_length]; omega
  · rw [e]
    unfold OwnI
    rw [lenI_length]
    exact ⟨by rw [izC_length, lenI_length, Nat.mul_one], .inr ⟨w.heap.size, L.length + 3, (izC (lenI L)).toArray, rfl, Nat.le_refl _, setRow_heap w1 w.heap.size cur _ 3 _ hg, Nat.le_refl _, hm, by simp [izC_length, lenI_length], by rw [List.take_of_length_le (by simp [izC_length, lenI_length])]⟩⟩
set_option maxRecDepth 100000 in
set_option maxHeartbeats 1000000 in
theorem lentI_any (ao : Option Addr) (cap : Nat) (L : List Int) (w : World) (hl : L.length ≤ 4294967296) (hat : ZAt w ao L) :
    Calls Try.prog 49 #[.slice ao L.length cap] w fun e w' => e = .returned (.slice (some ⟨w.heap.size, 0, none⟩) (L.length + 3) (L.length + 3)) ∧ OwnI w' w.heap.size (.slice (some ⟨w.heap.size, 0, none⟩) (L.length + 3) (L.length + 3)) (lenI L) ∧ Below w.heap.size w w' := by
  obtain ⟨i0, hi, hz0, hz1, hz2⟩ := info_parts Try.info3
  have hc3 : ((L.length : Int) + 3) = ((L.length + 3 : Nat) : Int) := by omega
  have HC3 := hide hc3
  have HAT := hide hat
  have HLC : Hid ((izC L).length = L.length * 1) := by unfold Hid; rw [izC_length, Nat.mul_one]
  have f1 : IntKind.i64.wrap ((L.length : Int) + 3) = (L.length : Int) + 3 := by simp [IntKind.wrap, IntKind.bits, IntKind.signed]; omega
  clear hc3 hat
  go_enter Try.func49, Try.ntmps49
  go_wp2_with (first
    | (refine wpList_copy_wide rfl (.tmp 8) (.tmp 9) 43 43 rfl 3 1 Try.underlying43 Try.size3 w.heap.size (L.length + 3) (L.length + 3) ao L.length cap rfl rfl cur 3 G1.out (izC L) HLC.out (by omega) G3.out G2.out G4.out (izC_one L) ?_; generalize w1.setRow w.heap.size (izC L ++ cur.toList.drop (izC L).length).toArray = w2 at G5 ⊢)
    | (refine wpList_make_full _ rfl (.tmp 6) (.tmp 6) 43 rfl w.heap.size 3 i0 (.int .i64 0) 1 Try.underlying43 hi hz0 hz1 .i64 .i64 _ _ (L.length + 3) rfl rfl HC3.out HC3.out (by rw [hz2]; omega) (by unfold maxLen; omega) (Nat.le_refl _) ?_; intro w1 h1 h2; obtain ⟨cur, g1, g2, g3, g4, g5⟩ := lenI_copied HAT.out h1 h2; have G1 := hide g1; have G2 := hide g2; have G3 := hide g3; have G4 := hide g4; have G5 := hide g5; clear h1 h2 g1 g2 g3 g4 g5))
  go_ret
  exact ⟨rfl, G5.out.1, G5.out.2⟩
/-- Struck by sevens so far. -/
def struckI (L : List Int) (k : Nat) : List Int := List.replicate k 7 ++ (lenI L).drop k
theorem struckI_length (L : List Int) (k : Nat) (hk : k ≤ L.length + 3) : (struckI L k).length = L.length + 3 := by
  unfold struckI
  rw [List.length_append, List.length_replicate, List.length_drop, lenI_length]
  omega
theorem struckI_get (L : List Int) (k : Nat) (hk : k < L.length + 3) : (izC (struckI L k))[k]? = some (.int .i64 (L.getD k 0)) := by
  unfold izC struckI
  rw [List.getElem?_map, List.getElem?_append_right (by simp), List.length_replicate, Nat.sub_self, List.getElem?_drop, Nat.add_zero]
  unfold lenI
  rcases Nat.lt_or_ge k L.length with h | h
  · rw [List.getElem?_append_left h, List.getElem?_eq_getElem h]
    simp [List.getD_eq_getElem?_getD, h]
  · rw [List.getElem?_append_right h]
    have : k - L.length = 0 ∨ k - L.length = 1 ∨ k - L.length = 2 := by omega
    rcases this with e | e | e <;> simp [e, List.getD_eq_getElem?_getD, List.getElem?_eq_none h]
theorem struckI_set (L : List Int) (k : Nat) (hk : k < L.length + 3) : (izC (struckI L k)).set k (.int .i64 7) = izC (struckI L (k + 1)) := by
  unfold izC struckI
  rw [List.drop_eq_getElem_cons (show k < (lenI L).length by rw [lenI_length]; exact hk), List.map_append, List.set_append_right _ _ (by simp), List.length_map, List.length_replicate, Nat.sub_self, List.map_cons, List.set_cons_zero, List.replicate_succ', List.map_append, List.map_append, List.append_assoc]
  rfl
set_option maxRecDepth 100000 in
set_option maxHeartbeats 1000000 in
theorem wholeI_any (ao : Option Addr) (cap base g : Nat) (L : List Int) (w : World) (hl : L.length ≤ 4294967296) (hat : ZAt w ao L) (hbg : ∀ b off, ao = some ⟨b, off, none⟩ → L ≠ [] → b ≠ g) (hO : OwnI w base (.slice (some ⟨g, 0, none⟩) (L.length + 3) (L.length + 3)) (lenI L)) :
    Calls Try.prog 50 #[.slice (some ⟨g, 0, none⟩) (L.length + 3) (L.length + 3), .slice ao L.length cap] w fun e w' => e = .returned (.bool true) ∧ Kept (fun k => k = g) w w' := by
  have O0 : Hid (w.ownsRow base 3 1 (.slice (some ⟨g, 0, none⟩) (L.length + 3) (L.length + 3)) (L.length + 3) (izC (struckI L 0))) := by
    have := hO
    unfold OwnI at this
    rw [lenI_length] at this
    exact this
  have HAT := hide hat
  have HBG := hide hbg
  clear hat hO hbg
  go_enter Try.func50, Try.ntmps50
  go_wp2
  go_loopg [5, 6] (L.length + 4) (fun gh o x wr => ∃ k : Nat, o = .bool true ∧ x = .int .i64 (k : Nat) ∧ k ≤ L.length + 3 ∧ Hid (wr.ownsRow base 3 1 (.slice (some ⟨g, 0, none⟩) (L.length + 3) (L.length + 3)) (L.length + 3) (izC (struckI L k))) ∧ Hid (Kept (fun k => k = g) w wr) ∧ L.length + 3 - k < gh)
  case atStart => exact ⟨0, rfl, rfl, Nat.zero_le _, O0, Kept.refl _ _, by omega⟩
  case round =>
    clear O0
    obtain ⟨k, rfl, rfl, hk1, HO, HK, hg⟩ := hrel
    have HG := hide hg
    clear hg
    have f1 : IntKind.i64.wrap ((k : Int) + 1) = (k : Int) + 1 := by rw [show (k : Int) + 1 = ((k + 1 : Nat) : Int) by simp]; simp [IntKind.wrap, IntKind.bits, IntKind.signed]; omega
    by_cases hk : k < L.length + 3
    · have hk' : (k : Int) < (L.length : Int) + 3 := by omega
      obtain ⟨z, hz⟩ : ∃ z, z = L.getD k 0 := ⟨_, rfl⟩
      have c0 : wr.cell? ⟨g, k, none⟩ = some (.int .i64 z) := by rw [HO.out.cellAt k (by omega), struckI_get L k hk, hz]
      have f0 := HO.out.frozenAt k
      obtain ⟨h3, h4⟩ := HO.out.stored k (.int .i64 7)
      rw [struckI_set L k hk] at h3
      have HO2 := hide h3
      have HK2 := hide (HK.out.trans ((kept_of_grown h4).mono (fun j hj => by cases hj; rfl)))
      have hzz : (z == z) = true := by simp
      by_cases hkL : k < L.length
      · have hkL' : (k : Int) < (L.length : Int) := by omega
        rcases HAT.out with h | ⟨b, off, hao, hb, hc⟩
        · rw [h] at hkL; simp at hkL
        have hbne := HBG.out b off hao (by intro h; rw [h] at hkL; simp at hkL)
        subst hao
        have c1 : wr.cell? ⟨b, off + k, none⟩ = some (.int .i64 z) := by rw [(HK.out.cell (p := ⟨b, off + k, none⟩) hb hbne), hc k hkL, hz]
        clear h3 h4 hc hz
        go_wp2
        go_roundg (L.length + 3 - (k + 1) + 1)
        case measure => have := HG.out; omega
        case rel => exact ⟨k + 1, by first | rfl | simp, by first | rfl | go_num | (congr 1; omega), by omega, HO2, HK2, by omega⟩
      · have hkL' : ¬ (k : Int) < (L.length : Int) := by omega
        have hz0 : z = 0 := by rw [hz, List.getD_eq_getElem?_getD, List.getElem?_eq_none (by omega)]; rfl
        subst hz0
        clear h3 h4 hz
        go_wp2
        go_roundg (L.length + 3 - (k + 1) + 1)
        case measure => have := HG.out; omega
        case rel => exact ⟨k + 1, by first | rfl | simp, by first | rfl | go_num | (congr 1; omega), by omega, HO2, HK2, by omega⟩
    · have hk' : ¬ (k : Int) < (L.length : Int) + 3 := by omega
      go_wp2
      go_ret
      exact ⟨rfl, HK.out⟩
end Go.Proofs.Ytnfdjbaafiifnaa
