/-
  allRight and picked by their contracts: the set of the numbers that are wanted. Conditions: lists of at most 2^32 spans each, at most 2^31 lists.
-/
import Derived.Test.YtljagefcgijmlaaPc3
namespace Go.Proofs.Ytljagefcgijmlaa
open Go.RowKit Go.Lib

theorem isSet_length {M : List Spn} (h : IsSet M) : M.length ≤ 4294967296 := by
  have h1 : ∀ L : List Spn, (∀ s ∈ L, Bnd s) → (L.length : Int) ≤ sizeL L := by
    intro L
    induction L with
    | nil => intro _; simp [sizeL]
    | cons s L ih =>
      intro hb
      have := ih (fun t ht => hb t (by simp [ht]))
      have hs := hb s (by simp)
      unfold Bnd at hs
      simp only [sizeL, List.length_cons]
      omega
  have := h1 M h.1
  have := (sizeL_le h).2
  omega

/-- Some lists of at most 2^32 spans. -/
def LensOk (S : List (List Spn)) : Prop := ∀ L ∈ S, L.length ≤ 4294967296

set_option maxRecDepth 100000 in
set_option maxHeartbeats 1000000 in
theorem allRight_any (ao : Option Addr) (cap : Nat) (S : List (List Spn)) (w : World) (hlen : S.length ≤ 140737488351232) (hok : LensOk S) (hat : SsAt w.heap.size w ao S) :
    Calls Try.prog 53 #[.slice ao S.length cap] w fun e w' => e = .returned (.bool (decide (∀ L ∈ S, IsSet L))) ∧ Below w.heap.size w w' := by
  go_enter Try.func53, Try.ntmps53
  go_wp2
  go_loopw [7] (fun i wr => ∃ k : Nat, k ≤ S.length ∧ i = .int .i64 k ∧ Hid (∀ j, j < k → IsSet (S.getD j [])) ∧ Below w.heap.size w wr) (fun i _ => S.length - (intOf i).toNat)
  case atStart => exact ⟨0, Nat.zero_le _, rfl, fun j hj => absurd hj (by omega), Below.refl _ _⟩
  case round =>
    obtain ⟨k, hk, rfl, hsets, hq⟩ := hrel
    have HQ := hide hq
    clear hq
    by_cases hlt : k < S.length
    · rcases hat.below HQ.out with h | ⟨b, off, rfl, hb, hc⟩
      · rw [h] at hlt; simp at hlt
      obtain ⟨ai, ci, q1, q2, q3⟩ := hc k hlt
      have hle : (S.getD k []).length ≤ 4294967296 := by
        have := hok S[k] (List.getElem_mem hlt)
        simpa [List.getD_eq_getElem?_getD, hlt] using this
      obtain ⟨L, hL⟩ : ∃ L, L = S.getD k [] := ⟨_, rfl⟩
      rw [← hL] at q1 q2 hle
      have HL := hide hL
      have hcon := right_any ai ci L wr (by omega) q2
      clear hL hc hat q2
      by_cases hs : IsSet L
      · rw [decide_eq_true hs] at hcon
        go_wp2_with (go_at_call 11; refine hcon.mono ?_; rintro e w2 ⟨rfl, x2⟩; have X2 := hide x2; clear x2)
        go_roundw
        case rel =>
          refine ⟨k + 1, by omega, by go_num, fun j hj => ?_, HQ.out.trans (X2.out.mono HQ.out.size)⟩
          rcases Nat.lt_or_ge j k with h | h
          · exact hsets.out j h
          · rw [show j = k by omega, ← HL.out]; exact hs
        case measure => simp [intOf]; omega
      · rw [decide_eq_false hs] at hcon
        go_wp2_with (go_at_call 11; refine hcon.mono ?_; rintro e w2 ⟨rfl, x2⟩; have X2 := hide x2; clear x2)
        go_ret
        refine ⟨?_, HQ.out.trans (X2.out.mono HQ.out.size)⟩
        rw [decide_eq_false (fun h => hs (by rw [HL.out]; have := h S[k] (List.getElem_mem hlt); simpa [List.getD_eq_getElem?_getD, hlt] using this))]
        rfl
    · have h8 : k = S.length := by omega
      subst h8
      go_wp2
      go_ret
      refine ⟨?_, HQ.out⟩
      rw [decide_eq_true (fun L hL => by
        obtain ⟨i, hi, rfl⟩ := List.getElem_of_mem hL
        simpa [List.getD_eq_getElem?_getD, hi] using hsets.out i hi)]
      rfl

/-- What is wanted of the sets in which a number is. -/
def Wants (g : Nat) (f : List Bool → Bool) (n : Nat) : Prop := (∀ args w, (callFunc g args).run Try.prog w = .ok (.enter g args) w) ∧
  ∀ (w : World) (ib : Nat) (ins : List Bool), ins.length = n → w.heap[ib]? = some (.cells (bools ins) 4 (0, 0)) → Calls Try.prog g #[.slice (some ⟨ib, 0, none⟩) n n] w fun e w' => e = .returned (.bool (f ins)) ∧ w' = w
/-- The numbers below lo that are wanted. -/
structure Upto (f : List Bool → Bool) (S : List (List Spn)) (lo : Int) (M : List Spn) : Prop where
  set : IsSet M
  low : ∀ t ∈ M, t.2 < lo
  says : ∀ n, memB n M = (decide (0 ≤ n) && decide (n < lo) && f (S.map (memB n)))
theorem Upto.start (f : List Bool → Bool) (S : List (List Spn)) : Upto f S 0 [] := by
  refine ⟨IsSet.nil, fun t ht => (by cases ht), fun n => ?_⟩
  by_cases h : 0 ≤ n
  · simp [memB_nil, show ¬ n < 0 by omega]
  · simp [memB_nil, h]
theorem piece_map {S : List (List Spn)} {lo hi : Int} {ins : List Bool} (h : Piece S lo hi ins) {n : Int} (h1 : lo ≤ n) (h2 : n ≤ hi) : S.map (memB n) = ins := by
  refine List.ext_getElem (by simp [h.len]) fun i i1 i2 => ?_
  have hi : i < S.length := by simpa using i1
  have := h.says i hi n h1 h2
  simpa [List.getD_eq_getElem?_getD, hi, i2] using this
theorem Upto.step {f : List Bool → Bool} {S : List (List Spn)} {lo hi : Int} {ins : List Bool} {M : List Spn} (h : Upto f S lo M) (p : Piece S lo hi ins) : Upto f S (hi + 1) (if f ins = true then joinL M (lo, hi) else M) := by
  have h1 := p.low
  have h2 := p.le
  have h3 := p.top
  have hM : ∀ t ∈ M, t.1 ≤ t.2 := fun t ht => by have := h.set.1 t ht; unfold Bnd at this; omega
  have hl : ∀ t ∈ M, t.1 ≤ (lo, hi).1 := fun t ht => by have := hM t ht; have := h.low t ht; simp only; omega
  by_cases hf : f ins = true
  · rw [if_pos hf]
    refine ⟨joinL_set h.set ⟨h1, h2, h3⟩ hl, ?_, fun n => ?_⟩
    · intro t ht
      have hb := joinL_set h.set (s := (lo, hi)) ⟨h1, h2, h3⟩ hl
      have hm : memB t.2 (joinL M (lo, hi)) = true := (memB_iff _ _).2 ⟨t, ht, by have := hb.1 t ht; unfold Bnd at this; omega, Int.le_refl _⟩
      rw [joinL_mem hl hM] at hm
      rcases Bool.or_eq_true_iff.1 hm with hm | hm
      · obtain ⟨s, hs, _, h5⟩ := (memB_iff _ _).1 hm
        have := h.low s hs
        omega
      · simp only [Bool.and_eq_true, decide_eq_true_eq] at hm; omega
    · rw [joinL_mem hl hM, h.says]
      by_cases a : lo ≤ n ∧ n ≤ hi
      · rw [piece_map p a.1 a.2, hf]
        simp [show ¬ n < lo by omega, a.1, a.2, show 0 ≤ n by omega, show n < hi + 1 by omega]
      · by_cases b : n < lo
        · simp [b, show ¬ lo ≤ n by omega, show n < hi + 1 by omega]
        · simp [b, show ¬ n ≤ hi by omega, show ¬ n < hi + 1 by omega]
  · rw [if_neg hf]
    refine ⟨h.set, fun t ht => by have := h.low t ht; omega, fun n => ?_⟩
    rw [h.says]
    by_cases a : lo ≤ n ∧ n ≤ hi
    · rw [piece_map p a.1 a.2]
      simp [Bool.eq_false_iff.2 hf]
    · by_cases b : n < lo
      · simp [b, show n < hi + 1 by omega]
      · simp [b, show ¬ n < hi + 1 by omega]
end Go.Proofs.Ytljagefcgijmlaa
