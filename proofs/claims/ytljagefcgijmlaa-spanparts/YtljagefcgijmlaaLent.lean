/-
  The statement's lent, walked. Condition: a list has at most 2^32 spans.
-/
import Derived.Test.YtljagefcgijmlaaCp
namespace Go.Proofs.Ytljagefcgijmlaa
open Go.RowKit Go.Lib

/-- What lent tells: the list, and four behind it. -/
def behind (n : Nat) : List Spn := [(-77, (n : Int)), (-77, (n : Int) + 1), (-77, (n : Int) + 2), (-77, (n : Int) + 3)]
def lentL (L : List Spn) : List Spn := L ++ behind L.length
def part4 (n k : Nat) : List Spn := (behind n).take k ++ List.replicate (4 - k) (0, 0)
theorem made_zero (n : Nat) : (madeCells (Value.agg #[.int .i64 0, .int .i64 0]).cells (n * 2)).toList = spCells (List.replicate n (0, 0)) := by
  have e : (Value.agg #[.int .i64 0, .int .i64 0]).cells = #[.int .i64 0, .int .i64 0] := by simp [Value.cells]
  rw [e]
  apply List.ext_getElem?
  intro j
  by_cases hj : j < n * 2
  · have h1 : (madeCells #[Value.int .i64 0, .int .i64 0] (n * 2)).toList[j]? = some (.int .i64 0) := by
      have : j % 2 = 0 ∨ j % 2 = 1 := by omega
      rcases this with h | h <;> simp [madeCells, hj, h]
    rw [h1]
    have h2 := spCells_get (List.replicate n ((0, 0) : Spn)) (j / 2) (by rw [List.length_replicate]; omega)
    have e2 : (List.replicate n ((0, 0) : Spn)).getD (j / 2) (0, 0) = (0, 0) := by
      simp [List.getD_eq_getElem?_getD, List.getElem?_replicate]; split <;> rfl
    rw [e2] at h2
    rcases (by omega : j = j / 2 * 2 ∨ j = j / 2 * 2 + 1) with h | h
    · rw [h]; exact h2.1.symm
    · rw [h]; exact h2.2.symm
  · rw [List.getElem?_eq_none (by simp [size_madeCells]; omega), List.getElem?_eq_none (by rw [spCells_length, List.length_replicate]; omega)]
theorem full_cur {w : World} {base g n : Nat} {xs : List Value} (h : w.ownsRow base 46 2 (.slice (some ⟨g, 0, none⟩) n n) n xs) : ∃ cur, w.heap[g]? = some (.cells cur 46 (0, 0)) ∧ cur.toList = xs ∧ base ≤ g ∧ n ≤ maxLen := by
  rcases h.2 with ⟨h', _⟩ | ⟨g', cap', cur, h', hb, hg, hnc, hcm, hcs, htake⟩
  · simp at h'
  · simp only [Value.slice.injEq, Option.some.injEq, Addr.mk.injEq, and_true, true_and] at h'
    obtain ⟨rfl, rfl⟩ := h'
    exact ⟨cur, hg, by rw [← htake, List.take_of_length_le (by simp; omega)], hb, hcm⟩
theorem own_set {w : World} {base g n : Nat} {L' : List Spn} {cur : Array Value} (hg : w.heap[g]? = some (.cells cur 46 (0, 0))) (hb : base ≤ g) (hn : L'.length = n) (hm : n ≤ maxLen) : OwnS (w.setRow g (spCells L').toArray) base (.slice (some ⟨g, 0, none⟩) n n) L' := by
  unfold OwnS
  rw [hn]
  exact ⟨by rw [spCells_length, hn], .inr ⟨g, n, (spCells L').toArray, rfl, hb, setRow_heap w g cur _ 46 _ hg, Nat.le_refl _, hm, by simp [spCells_length, hn], by simp [List.take_of_length_le, spCells_length, hn]⟩⟩
theorem Try.size46 : (Try.prog.info? 46).map (·.size) = some 2 := by
  obtain ⟨i0, hi, hz0, hz1, hz2⟩ := Try.info46'
  rw [hi]; simp [hz1]
theorem lent_copied {w w1 : World} {ao : Option Addr} {L : List Spn} (hat : SpAt w ao L) (h1 : w1.ownsRow w.heap.size 46 2 (.slice (some ⟨w.heap.size, 0, none⟩) (L.length + 4) (L.length + 4)) (L.length + 4) (madeCells (Value.agg #[.int .i64 0, .int .i64 0]).cells ((L.length + 4) * 2)).toList) (h2 : w.grownBy w1 none) :
    ∃ cur : Array Value, w1.heap[w.heap.size]? = some (.cells cur 46 (0, 0)) ∧ (∀ ad, ao = some ad → ∀ j v, (spCells L)[j]? = some v → w1.cell? (ad.add j) = some v) ∧ (ao = none → L.length = 0) ∧ (spCells L).length ≤ cur.size ∧
      OwnS (w1.setRow w.heap.size (spCells L ++ cur.toList.drop (spCells L).length).toArray) w.heap.size (.slice (some ⟨w.heap.size, 0, none⟩) (L.length + 4) (L.length + 4)) (L ++ part4 L.length 0) ∧ Below w.heap.size w (w1.setRow w.heap.size (spCells L ++ cur.toList.drop (spCells L).length).toArray) := by
  obtain ⟨cur, hg, hc, hb, hm⟩ := full_cur h1
  rw [made_zero] at hc
  have hbl : Below w.heap.size w w1 := (Below.refl _ _).grown h2 (Nat.le_refl _) (fun k hk => by cases hk)
  have e : spCells L ++ cur.toList.drop (spCells L).length = spCells (L ++ part4 L.length 0) := by
    rw [hc, spCells_append, ← List.replicate_append_replicate, spCells_append, spCells_length]
    rw [List.drop_append_of_le_length (by rw [spCells_length, List.length_replicate]; omega), List.drop_of_length_le (by rw [spCells_length, List.length_replicate]; omega)]
    rfl
  refine ⟨cur, hg, fun ad h => by subst h; exact (hat.below hbl).cells, fun h => ?_, ?_, ?_, below_setRow hbl (Nat.le_refl _) _⟩
  · subst h
    rcases hat with h | ⟨b, off, e, _⟩
    · rw [h]; rfl
    · cases e
  · have := congrArg List.length hc
    rw [spCells_length, List.length_replicate, Array.length_toList] at this
    rw [spCells_length]; omega
  · rw [e]
    exact own_set hg hb (by simp [part4]) hm

theorem lent_set (L : List Spn) (k : Nat) (hk : k < 4) : ((spCells (L ++ part4 L.length k)).set ((L.length + k) * 2) (.int .i64 (-77))).set ((L.length + k) * 2 + 1) (.int .i64 ((L.length : Int) + k)) = spCells (L ++ part4 L.length (k + 1)) := by
  rw [spCells_append, spCells_append, List.set_append_right _ _ (by rw [spCells_length]; omega), List.set_append_right _ _ (by rw [spCells_length]; omega), spCells_length,
    show (L.length + k) * 2 - L.length * 2 = k * 2 by omega, show (L.length + k) * 2 + 1 - L.length * 2 = k * 2 + 1 by omega]
  congr 1
  match k, hk with
  | 0, _ => simp [part4, behind, spCells]
  | 1, _ => simp [part4, behind, spCells]
  | 2, _ => simp [part4, behind, spCells]
  | 3, _ => simp [part4, behind, spCells]

set_option maxRecDepth 100000 in
set_option maxHeartbeats 4000000 in
theorem lent_any (ao : Option Addr) (cap : Nat) (L : List Spn) (w : World) (hl : L.length ≤ 4294967296) (hat : SpAt w ao L) :
    Calls Try.prog 10 #[.slice ao L.length cap] w fun e w' => e = .returned (.slice (some ⟨w.heap.size, 0, none⟩) (L.length + 4) (L.length + 4)) ∧ OwnS w' w.heap.size (.slice (some ⟨w.heap.size, 0, none⟩) (L.length + 4) (L.length + 4)) (lentL L) ∧ Below w.heap.size w w' := by
  obtain ⟨i0, hi, hz0, hz1, hz2⟩ := Try.info46'
  have hc4 : ((L.length : Int) + 4) = ((L.length + 4 : Nat) : Int) := by omega
  have HC4 := hide hc4
  have HAT := hide hat
  have HLC := hide (spCells_length L)
  clear hc4 hat
  go_enter Try.func10, Try.ntmps10
  go_wp2_with (first
    | (refine wpList_copy_wide rfl (.tmp 9) (.tmp 10) 22 22 rfl 46 2 Try.underlying22 Try.size46 w.heap.size (L.length + 4) (L.length + 4) ao L.length cap rfl rfl cur 46 G1.out (spCells L) HLC.out (by omega) G3.out G2.out G4.out (spCells_one L) ?_; generalize w1.setRow w.heap.size (spCells L ++ cur.toList.drop (spCells L).length).toArray = w2 at G5 ⊢)
    | (refine wpList_make_full _ rfl (.tmp 7) (.tmp 7) 22 rfl w.heap.size 46 i0 (.agg #[.int .i64 0, .int .i64 0]) 2 Try.underlying22 hi hz0 hz1 .i64 .i64 _ _ (L.length + 4) rfl rfl HC4.out HC4.out (by rw [hz2]; omega) (by unfold maxLen; omega) (Nat.le_refl _) ?_; intro w1 h1 h2; obtain ⟨cur, g1, g2, g3, g4, g5⟩ := lent_copied HAT.out h1 h2; have G1 := hide g1; have G2 := hide g2; have G3 := hide g3; have G4 := hide g4; have G5 := hide g5; clear h1 h2 g1 g2 g3 g4 g5))
  go_loopw [4] (fun i wq => ∃ k : Nat, k ≤ 4 ∧ i = .int .i64 ((L.length + k : Nat) : Int) ∧ Hid (OwnS wq w.heap.size (.slice (some ⟨w.heap.size, 0, none⟩) (L.length + 4) (L.length + 4)) (L ++ part4 L.length k)) ∧ Below w.heap.size w wq) (fun i _ => L.length + 4 - (intOf i).toNat)
  case atStart => exact ⟨0, Nat.zero_le _, rfl, G5.out.1, G5.out.2⟩
  case round =>
    obtain ⟨k, hk, rfl, ho, hq⟩ := hrel
    have HQ := hide hq
    clear hq
    by_cases hlt : k < 4
    · have hh : wr.ownsRow w.heap.size 46 2 (.slice (some ⟨w.heap.size, 0, none⟩) (L.length + 4) (L.length + 4)) (L.length + 4) (spCells (L ++ part4 L.length k)) := by
        have := ho.out
        unfold OwnS at this
        rwa [show (L ++ part4 L.length k).length = L.length + 4 by simp [part4, behind]; omega] at this
      have HH := hide hh
      obtain ⟨u1, hu1⟩ : ∃ u, (spCells (L ++ part4 L.length k))[(L.length + k) * 2]? = some u := ⟨_, List.getElem?_eq_getElem (by rw [hh.1]; omega)⟩
      have c1 := (hh.cellAt ((L.length + k) * 2) (by omega)).trans hu1
      have f1 := hh.frozenAt ((L.length + k) * 2)
      obtain ⟨h3, h4⟩ := hh.stored ((L.length + k) * 2) (.int .i64 (-77))
      obtain ⟨u2, hu2⟩ : ∃ u, ((spCells (L ++ part4 L.length k)).set ((L.length + k) * 2) (.int .i64 (-77)))[(L.length + k) * 2 + 1]? = some u := ⟨_, List.getElem?_eq_getElem (by rw [h3.1]; omega)⟩
      have c2 := (h3.cellAt ((L.length + k) * 2 + 1) (by omega)).trans hu2
      have f2 := h3.frozenAt ((L.length + k) * 2 + 1)
      obtain ⟨h5, h6⟩ := h3.stored ((L.length + k) * 2 + 1) (.int .i64 ((L.length : Int) + k))
      rw [lent_set L k hlt] at h5
      have hb2 : Below w.heap.size w ((wr.setCell ⟨w.heap.size, (L.length + k) * 2, none⟩ (.int .i64 (-77))).setCell ⟨w.heap.size, (L.length + k) * 2 + 1, none⟩ (.int .i64 ((L.length : Int) + k))) :=
        (HQ.out.grown h4 HQ.out.size (fun i hi => by cases hi; exact Nat.le_refl _)).grown h6 (HQ.out.grown h4 HQ.out.size (fun i hi => by cases hi; exact Nat.le_refl _)).size (fun i hi => by cases hi; exact Nat.le_refl _)
      have H5 := hide h5
      have HB2 := hide hb2
      have hk2 : ((L.length + k : Nat) : Int) < (L.length : Int) + 4 := by omega
      clear hh ho h3 h4 h5 h6 hu1 hu2 hb2
      go_wp2
      go_roundw
      case rel =>
        refine ⟨k + 1, by omega, by go_num, ?_, HB2.out⟩
        have := H5.out
        unfold OwnS
        rwa [show (L ++ part4 L.length (k + 1)).length = L.length + 4 by simp [part4, behind]; omega]
      case measure => simp [intOf]; omega
    · have h8 : k = 4 := by omega
      subst h8
      go_wp2
      go_ret
      exact ⟨rfl, ho.out, HQ.out⟩
end Go.Proofs.Ytljagefcgijmlaa
