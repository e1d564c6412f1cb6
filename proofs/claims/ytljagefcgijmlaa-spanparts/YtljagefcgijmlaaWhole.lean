/-
  The statement's whole, walked. Condition: a list has at most 2^32 spans.
-/
import Derived.Test.YtljagefcgijmlaaLent
namespace Go.Proofs.Ytljagefcgijmlaa
open Go.RowKit Go.Lib

theorem lentL_get (L : List Spn) (k : Nat) (hk : k < 4) : (lentL L).getD (L.length + k) (0, 0) = (-77, (L.length : Int) + k) := by
  unfold lentL
  rw [List.getD_eq_getElem?_getD, List.getElem?_append_right (by omega), show L.length + k - L.length = k by omega]
  match k, hk with
  | 0, _ => simp [behind]
  | 1, _ => simp [behind]
  | 2, _ => simp [behind]
  | 3, _ => simp [behind]
theorem lentL_length (L : List Spn) : (lentL L).length = L.length + 4 := by simp [lentL, behind]

set_option maxRecDepth 100000 in
set_option maxHeartbeats 4000000 in
theorem whole_any (ao : Option Addr) (g cap base : Nat) (L : List Spn) (w : World) (hl : L.length ≤ 4294967296) (hat : SpAt w ao L) (ho : OwnS w base (.slice (some ⟨g, 0, none⟩) (L.length + 4) (L.length + 4)) (lentL L)) :
    Calls Try.prog 15 #[.slice (some ⟨g, 0, none⟩) (L.length + 4) (L.length + 4), .slice ao L.length cap] w fun e w' => e = .returned (.bool true) ∧ Kept (fun k => k = g) w w' := by
  have hg : g < w.heap.size := (ho.lt g rfl).2
  have hs : SpAt w (some ⟨g, 0, none⟩) (lentL L) := by
    obtain ⟨a, c, e, h, _⟩ := ho.shape
    injection e with e1 e2 e3
    subst e1
    exact h
  have hs2 := hs.take L.length
  rw [show (lentL L).take L.length = L by simp [lentL]] at hs2
  have hcon := fun (c1 : Nat) => spans_any (some ⟨g, 0, none⟩) ao c1 cap L L w (by omega) hs2 hat
  rw [decide_eq_true rfl] at hcon
  have i1 : (L.length : Int) ≤ (L.length : Int) + 4 := by omega
  have HO := hide ho
  have HS := hide hs
  clear hat hs2 ho hs
  go_enter Try.func15, Try.ntmps15
  go_wp2_with (go_at_call 34; refine (hcon _).mono ?_; rintro e w1 ⟨rfl, x1⟩; have X1 := hide x1; clear x1)
  go_loopw [5, 6] (fun th i wq => ∃ k : Nat, k ≤ 4 ∧ th = .bool true ∧ i = .int .i64 ((L.length + k : Nat) : Int) ∧ Below w.heap.size w wq) (fun _ i _ => L.length + 4 - (intOf i).toNat)
  case atStart => exact ⟨0, Nat.zero_le _, rfl, rfl, X1.out⟩
  case round =>
    obtain ⟨k, hk, rfl, rfl, hq⟩ := hrel
    have HQ := hide hq
    clear hq
    by_cases hlt : k < 4
    · obtain ⟨b, off, e, hb, hc⟩ := HS.out.get (i := 0) (by rw [lentL_length]; omega)
      cases e
      obtain ⟨c1, c2⟩ := (hc (L.length + k) (by rw [lentL_length]; omega)).below HQ.out hg
      rw [lentL_get L k hlt] at c1 c2
      simp only [Nat.zero_add] at c1 c2
      have hk2 : ((L.length + k : Nat) : Int) < (L.length : Int) + 4 := by omega
      clear hc
      go_wp2
      go_roundw
      case rel => exact ⟨k + 1, by omega, rfl, by go_num, HQ.out⟩
      case measure => simp [intOf]; omega
    · have h8 : k = 4 := by omega
      subst h8
      go_wp2
      go_loopw [7] (fun i wq => ∃ (k : Nat) (xs : List Value), k ≤ L.length + 4 ∧ i = .int .i64 k ∧ Hid (wq.ownsRow base 46 2 (.slice (some ⟨g, 0, none⟩) (L.length + 4) (L.length + 4)) (L.length + 4) xs) ∧ Hid (Kept (fun k => k = g) w wq)) (fun i _ => L.length + 4 - (intOf i).toNat)
      case atStart =>
        have := HO.out.below HQ.out
        unfold OwnS at this
        rw [lentL_length] at this
        exact ⟨0, _, Nat.zero_le _, rfl, this, Kept.of_below HQ.out⟩
      case round =>
        obtain ⟨j, xs, hj, rfl, hrow, hkp⟩ := hrel
        by_cases hjl : j < L.length + 4
        · have hh := hrow.out
          obtain ⟨u1, hu1⟩ : ∃ u, xs[j * 2]? = some u := ⟨_, List.getElem?_eq_getElem (by rw [hh.1]; omega)⟩
          have c1 := (hh.cellAt (j * 2) (by omega)).trans hu1
          have f1 := hh.frozenAt (j * 2)
          obtain ⟨h3, h4⟩ := hh.stored (j * 2) (.int .i64 (-78))
          obtain ⟨u2, hu2⟩ : ∃ u, (xs.set (j * 2) (.int .i64 (-78)))[j * 2 + 1]? = some u := ⟨_, List.getElem?_eq_getElem (by rw [h3.1]; omega)⟩
          have c2 := (h3.cellAt (j * 2 + 1) (by omega)).trans hu2
          have f2 := h3.frozenAt (j * 2 + 1)
          obtain ⟨h5, h6⟩ := h3.stored (j * 2 + 1) (.int .i64 0)
          have hk9 := (hkp.out.grown h4 (fun k hk => by cases hk; rfl)).grown h6 (fun k hk => by cases hk; rfl)
          have H5 := hide h5
          have HK9 := hide hk9
          have hj2 : (j : Int) < (L.length : Int) + 4 := by omega
          clear hh hrow hkp h3 h4 h5 h6 hu1 hu2 hk9
          go_wp2
          go_roundw
          case rel => exact ⟨j + 1, _, by omega, by go_num, H5.out, HK9.out⟩
          case measure => simp [intOf]; omega
        · have h8 : j = L.length + 4 := by omega
          subst h8
          go_wp2
          go_ret
          exact ⟨rfl, hkp.out⟩
end Go.Proofs.Ytljagefcgijmlaa
