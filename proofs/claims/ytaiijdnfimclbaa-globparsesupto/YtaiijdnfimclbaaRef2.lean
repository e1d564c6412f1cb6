/-
  The document's in, Has and Size by their contracts: they say what the program's say. Condition: a list is no longer than a process can hold.
-/
import Derived.Test.YtaiijdnfimclbaaRef1
namespace Go.Proofs.Ytaiijdnfimclbaa
open Go.RowKit Go.Lib

/-- Where the search ends. -/
theorem in_says {L : List Spn} (h : IsSet L) (n : Int) (m : Nat) (hm : m ≤ L.length) (h1 : ∀ i, i < m → (L.getD i (0, 0)).2 < n) (h2 : ∀ i, m ≤ i → i < L.length → n ≤ (L.getD i (0, 0)).2) : memB n L = (decide (m < L.length) && decide ((L.getD m (0, 0)).1 ≤ n)) := by
  rw [Bool.eq_iff_iff]
  simp only [Bool.and_eq_true, decide_eq_true_eq]
  constructor
  · intro hb
    obtain ⟨s, hs, a1, a2⟩ := (memB_iff n L).1 hb
    obtain ⟨i, hi, rfl⟩ := List.getElem_of_mem hs
    have e : L.getD i (0, 0) = L[i] := by simp [List.getD_eq_getElem?_getD, hi]
    have him : m ≤ i := by
      rcases Nat.lt_or_ge i m with hlt | hge
      · have := h1 i hlt; rw [e] at this; omega
      · exact hge
    refine ⟨by omega, ?_⟩
    rcases Nat.eq_or_lt_of_le him with heq | hlt
    · rw [heq, e]; exact a1
    · have hml : m < L.length := by omega
      have := h2 m (Nat.le_refl _) hml
      have hp := List.pairwise_iff_getElem.1 h.2 m i hml hi hlt
      have em : L.getD m (0, 0) = L[m] := by simp [List.getD_eq_getElem?_getD, hml]
      rw [em] at this
      omega
  · rintro ⟨hml, hlo⟩
    have em : L.getD m (0, 0) = L[m] := by simp [List.getD_eq_getElem?_getD, hml]
    have := h2 m (Nat.le_refl _) hml
    rw [em] at this hlo
    exact (memB_iff n L).2 ⟨L[m], List.getElem_mem hml, hlo, this⟩
theorem set_mono {L : List Spn} (h : IsSet L) {i j : Nat} (hij : i ≤ j) (hj : j < L.length) : (L.getD i (0, 0)).2 ≤ (L.getD j (0, 0)).2 := by
  rcases Nat.eq_or_lt_of_le hij with rfl | hlt
  · exact Int.le_refl _
  · have hi : i < L.length := by omega
    have hp := List.pairwise_iff_getElem.1 h.2 i j hi hj hlt
    have hb := h.1 L[j] (List.getElem_mem hj)
    unfold Bnd at hb
    simp only [List.getD_eq_getElem?_getD, hi, hj, List.getElem?_eq_getElem, Option.getD_some]
    omega

set_option maxRecDepth 100000 in
set_option maxHeartbeats 2000000 in
theorem in_any (ao : Option Addr) (cap : Nat) (L : List Spn) (n : Int) (w : World) (hl : L.length ≤ 140737488351232) (hs : IsSet L) (hat : SpAt w ao L) :
    Calls Try.prog 87 #[.slice ao L.length cap, .int .i64 n] w fun e w' => e = .returned (.bool (memB n L)) ∧ Below w.heap.size w w' := by
  go_enter Try.func87, Try.ntmps87
  go_wp2
  go_loopw [5, 6] (fun f t wr => ∃ a b : Nat, a ≤ b ∧ b ≤ L.length ∧ f = .int .i64 a ∧ t = .int .i64 b ∧ Hid (∀ i, i < a → (L.getD i (0, 0)).2 < n) ∧ Hid (∀ i, b ≤ i → i < L.length → n ≤ (L.getD i (0, 0)).2) ∧ Below w.heap.size w wr) (fun f t _ => (intOf t).toNat - (intOf f).toNat)
  case atStart => exact ⟨0, L.length, Nat.zero_le _, Nat.le_refl _, rfl, rfl, fun i hi => absurd hi (by omega), fun i h1 h2 => absurd h1 (by omega), Below.refl _ _⟩
  case round =>
    obtain ⟨a, b, hab, hbl, rfl, rfl, h1, h2, hq⟩ := hrel
    have HQ := hide hq
    clear hq
    by_cases hlt : a < b
    · obtain ⟨m, hm⟩ : ∃ m, m = (a + b) / 2 := ⟨_, rfl⟩
      have hma : a ≤ m := by omega
      have hmb : m < b := by omega
      obtain ⟨bb, off, rfl, hb, hc⟩ := hat.get (i := m) (by omega)
      have c2 := ((hc m (by omega)).below HQ.out hb).2
      have hq2 : ((a : Int) + (b : Int)) / 2 = (m : Int) := by omega
      have hmi : (m : Int) < (L.length : Int) := by omega
      have HM := hide (fun i (hi : i ≤ m) => set_mono hs hi (show m < L.length by omega))
      have HM2 := hide (fun i (hi : m ≤ i) (hl : i < L.length) => set_mono hs hi hl)
      obtain ⟨z, hz⟩ : ∃ z, z = L.getD m (0, 0) := ⟨_, rfl⟩
      rw [← hz] at c2
      have HZ := hide hz
      clear hc hat hm hz
      by_cases hn : z.2 < n
      · go_wp2
        go_roundw
        case rel => exact ⟨m + 1, b, by omega, hbl, by go_num, rfl, fun i hi => by have := HM.out i (by omega); rw [← HZ.out] at this; omega, h2.out, HQ.out⟩
        case measure => simp [intOf]; omega
      · go_wp2
        go_roundw
        case rel => exact ⟨a, m, hma, by omega, by first | rfl | go_num, by first | rfl | go_num, h1.out, fun i hi hl => by have := HM2.out i hi hl; rw [← HZ.out] at this; omega, HQ.out⟩
        case measure => simp [intOf]; omega
    · have h8 : a = b := by omega
      subst h8
      have hsay := in_says hs n a hbl h1.out h2.out
      by_cases hal : a < L.length
      · obtain ⟨bb, off, rfl, hb, hc⟩ := hat.get hal
        have c1 := ((hc a hal).below HQ.out hb).1
        have hai : (a : Int) < (L.length : Int) := by omega
        obtain ⟨z, hz⟩ : ∃ z, z = L.getD a (0, 0) := ⟨_, rfl⟩
        rw [← hz] at c1 hsay
        clear hc hat hz
        by_cases z1 : z.1 ≤ n
        · rw [decide_eq_true hal, decide_eq_true z1] at hsay
          have HS := hide hsay
          clear hsay
          go_wp2
          go_ret
          exact ⟨by rw [HS.out]; rfl, HQ.out⟩
        · rw [decide_eq_false z1, Bool.and_false] at hsay
          have HS := hide hsay
          clear hsay
          go_wp2
          go_ret
          exact ⟨by rw [HS.out]; rfl, HQ.out⟩
      · rw [decide_eq_false hal, Bool.false_and] at hsay
        have HS := hide hsay
        have hai : ¬ (a : Int) < (L.length : Int) := by omega
        clear hsay hat
        go_wp2
        go_ret
        exact ⟨by rw [HS.out]; rfl, HQ.out⟩

theorem refHas_any (ao : Option Addr) (cap : Nat) (L : List Spn) (n : Int) (w : World) (hl : L.length ≤ 140737488351232) (hat : SpAt w ao L) :
    Calls Try.prog 76 #[.slice ao L.length cap, .int .i64 n] w fun e w' => e = .returned (.bool (hasL L n)) ∧ Below w.heap.size w w' := by
  have hr := refRight_any ao cap L w hl hat
  by_cases hs : IsSet L
  · rw [decide_eq_true hs] at hr
    have e1 : hasL L n = memB n L := by simp [hasL, hs]
    rw [e1]
    have hc := fun (w2 : World) (h : Below w.heap.size w w2) => in_any ao cap L n w2 hl hs (hat.below h)
    clear hat e1
    go_enter Try.func76, Try.ntmps76
    go_wp2_with (first | (go_at_call 72; refine hr.mono ?_; rintro e w2 ⟨rfl, x2⟩; have X2 := hide x2; clear x2) | (go_at_call 87; refine (hc _ X2.out).mono ?_; rintro e w3 ⟨rfl, x3⟩; have X3 := hide x3; clear x3))
    go_ret
    exact ⟨rfl, bt X2.out X3.out (Nat.le_refl _)⟩
  · rw [decide_eq_false hs] at hr
    have e1 : hasL L n = false := by simp [hasL, hs]
    rw [e1]
    clear hat e1
    go_enter Try.func76, Try.ntmps76
    go_wp2_with (go_at_call 72; refine hr.mono ?_; rintro e w2 ⟨rfl, x2⟩; have X2 := hide x2; clear x2)
    go_ret
    exact ⟨rfl, X2.out⟩

end Go.Proofs.Ytaiijdnfimclbaa
