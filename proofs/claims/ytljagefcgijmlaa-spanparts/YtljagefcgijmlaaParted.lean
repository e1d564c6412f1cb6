/-
  The document's ints, and the statement's parted, walked. Condition: a list is no longer than a process can hold.
-/
import Derived.Test.YtljagefcgijmlaaOwnedP
import Derived.Test.YtljagefcgijmlaaTwo
import Derived.Deep.RegionHeld3
namespace Go.Proofs.Ytljagefcgijmlaa
open Go.RowKit Go.Lib

set_option maxRecDepth 100000 in
set_option maxHeartbeats 1000000 in
theorem refInts_any (a1 a2 : Option Addr) (c1 c2 : Nat) (I J : List Nat) (w : World) (hl : I.length ≤ 140737488351232) (h1 : IAt w a1 I) (h2 : IAt w a2 J) :
    Calls Try.prog 57 #[.slice a1 I.length c1, .slice a2 J.length c2] w fun e w' => e = .returned (.bool (decide (I = J))) ∧ Below w.heap.size w w' := by
  by_cases hlen : I.length = J.length
  · go_enter Try.func57, Try.ntmps57
    rw [hlen] at hl ⊢
    go_wp2
    go_loopw [5] (fun i wr => ∃ k : Nat, k ≤ J.length ∧ i = .int .i64 k ∧ Hid (∀ j, j < k → I.getD j 0 = J.getD j 0) ∧ Below w.heap.size w wr) (fun i _ => J.length - (intOf i).toNat)
    case atStart => exact ⟨0, Nat.zero_le _, rfl, fun j hj => absurd hj (by omega), Below.refl _ _⟩
    case round =>
      obtain ⟨k, hk, rfl, hok, hq⟩ := hrel
      have HQ := hide hq
      clear hq
      by_cases hlt : k < J.length
      · obtain ⟨b, off, rfl, hb, hc⟩ := h1.get (i := k) (by omega)
        obtain ⟨b', off', rfl, hb', hc'⟩ := h2.get hlt
        have q1 := (HQ.out.cell (p := ⟨b, off + k, none⟩) hb).trans (hc k (by omega))
        have q3 := (HQ.out.cell (p := ⟨b', off' + k, none⟩) hb').trans (hc' k hlt)
        obtain ⟨s, hs⟩ : ∃ s, s = I.getD k 0 := ⟨_, rfl⟩
        obtain ⟨t, ht⟩ : ∃ t, t = J.getD k 0 := ⟨_, rfl⟩
        rw [← hs] at q1
        rw [← ht] at q3
        have HS := hide hs
        have HT := hide ht
        clear hs ht hc hc' h1 h2
        by_cases e1 : s = t
        · subst e1
          go_wp2
          go_quiet (fail)
          go_wp2
          go_roundw
          case rel =>
            refine ⟨k + 1, by omega, by go_num, fun j hj => ?_, HQ.out.trans (below_drewN _ _ _)⟩
            rcases Nat.lt_or_ge j k with h | h
            · exact hok.out j h
            · rw [show j = k by omega, ← HS.out, ← HT.out]
          case measure => simp [intOf]; omega
        · have HF : Hid (decide (I = J) = false) := decide_eq_false fun e => e1 (by rw [HS.out, HT.out, e])
          have e2 : ¬ ((s : Int) = (t : Int)) := by omega
          go_wp2
          go_quiet (fail)
          go_wp2
          go_ret
          exact ⟨by rw [HF.out]; rfl, HQ.out.trans (below_drewN _ _ _)⟩
      · have h8 : k = J.length := by omega
        subst h8
        go_wp2
        go_ret
        refine ⟨?_, HQ.out⟩
        rw [decide_eq_true (List.ext_getElem hlen fun i i1 i2 => by have := hok.out i i2; simpa [List.getD_eq_getElem?_getD, i1, i2] using this)]
        rfl
  · rw [decide_eq_false (fun e => hlen (by rw [e]))]
    have hne : ¬ ((I.length : Int) = (J.length : Int)) := by omega
    clear h1 h2
    go_enter Try.func57, Try.ntmps57
    go_wp2
    go_ret
    exact ⟨rfl, Below.refl _ _⟩

/-- Parts as they lie. -/
def PtAt (w : World) (ao : Option Addr) (P : List (Spn × List Nat)) : Prop := P = [] ∨ ∃ b off, ao = some ⟨b, off, none⟩ ∧ b < w.heap.size ∧ ∀ i, i < P.length →
  w.cell? ⟨b, off + i * 3, none⟩ = some (.int .i64 (P.getD i ((0, 0), [])).1.1) ∧ w.cell? ⟨b, off + i * 3 + 1, none⟩ = some (.int .i64 (P.getD i ((0, 0), [])).1.2) ∧
  ∃ ai ci, w.cell? ⟨b, off + i * 3 + 2, none⟩ = some (.slice ai (P.getD i ((0, 0), [])).2.length ci) ∧ IAt w ai (P.getD i ((0, 0), [])).2
theorem PtAt.below {w w' : World} {ao : Option Addr} {P : List (Spn × List Nat)} (h : PtAt w ao P) (hb : Below w.heap.size w w') : PtAt w' ao P := by
  rcases h with rfl | ⟨b, off, e, hlt, h⟩
  · exact .inl rfl
  · refine .inr ⟨b, off, e, Nat.lt_of_lt_of_le hlt hb.size, fun i hi => ?_⟩
    obtain ⟨h1, h2, ai, ci, h3, h4⟩ := h i hi
    exact ⟨(hb.cell (p := ⟨b, _, none⟩) hlt).trans h1, (hb.cell (p := ⟨b, _, none⟩) hlt).trans h2, ai, ci, (hb.cell (p := ⟨b, _, none⟩) hlt).trans h3, h4.below hb⟩
theorem PtAt.get {w : World} {ao : Option Addr} {P : List (Spn × List Nat)} (h : PtAt w ao P) {i : Nat} (hi : i < P.length) : ∃ b off, ao = some ⟨b, off, none⟩ ∧ b < w.heap.size ∧ 
  w.cell? ⟨b, off + i * 3, none⟩ = some (.int .i64 (P.getD i ((0, 0), [])).1.1) ∧ w.cell? ⟨b, off + i * 3 + 1, none⟩ = some (.int .i64 (P.getD i ((0, 0), [])).1.2) ∧
  ∃ ai ci, w.cell? ⟨b, off + i * 3 + 2, none⟩ = some (.slice ai (P.getD i ((0, 0), [])).2.length ci) ∧ IAt w ai (P.getD i ((0, 0), [])).2 := by
  rcases h with rfl | ⟨b, off, e, hlt, h⟩
  · simp at hi
  · exact ⟨b, off, e, hlt, h i hi⟩
theorem OwnP.at' {w : World} {base : Nat} {v : Value} {P : List PartD} (h : OwnP w base v P) : ∃ ao cap, v = .slice ao P.length cap ∧ PtAt w ao (bare P) := by
  have hr := h.row
  rcases hr.2 with ⟨rfl, hn⟩ | ⟨g, cap, cur, rfl, hb, hg, r⟩
  · exact ⟨none, 0, by rw [hn], .inl (by rw [List.length_eq_zero_iff.1 hn]; rfl)⟩
  · refine ⟨_, cap, rfl, .inr ⟨g, 0, rfl, lt_of_block hg, fun i hi => ?_⟩⟩
    rw [bare_length] at hi
    obtain ⟨c1, c2, c3⟩ := ptCells_get P i hi
    have e : (bare P).getD i ((0, 0), []) = ((P[i]).s, (P[i]).I) := by simp [bare, List.getD_eq_getElem?_getD, hi]
    rw [e, Nat.zero_add]
    obtain ⟨ai, ci, e3, h3⟩ := (h.ints P[i] (List.getElem_mem hi)).at'
    refine ⟨?_, ?_, ai, ci, ?_, h3⟩
    · rw [World.ownsRow.cellAt hr (i * 3) (by omega), c1]
    · rw [World.ownsRow.cellAt hr (i * 3 + 1) (by omega), c2]
    · rw [World.ownsRow.cellAt hr (i * 3 + 2) (by omega), c3, e3]

set_option maxRecDepth 100000 in
set_option maxHeartbeats 1000000 in
theorem parted_any (a1 a2 : Option Addr) (c1 c2 : Nat) (P : List (Spn × List Nat)) (w : World) (hl : P.length ≤ 140737488351232) (hI : ∀ q ∈ P, q.2.length ≤ 140737488351232) (h1 : PtAt w a1 P) (h2 : PtAt w a2 P) :
    Calls Try.prog 32 #[.slice a1 P.length c1, .slice a2 P.length c2] w fun e w' => e = .returned (.bool true) ∧ Below w.heap.size w w' := by
  have HI := hide hI
  clear hI
  go_enter Try.func32, Try.ntmps32
  go_wp2
  go_loopw [5] (fun i wr => ∃ k : Nat, k ≤ P.length ∧ i = .int .i64 k ∧ Below w.heap.size w wr) (fun i _ => P.length - (intOf i).toNat)
  case atStart => exact ⟨0, Nat.zero_le _, rfl, Below.refl _ _⟩
  case round =>
    obtain ⟨k, hk, rfl, hq⟩ := hrel
    have HQ := hide hq
    clear hq
    by_cases hlt : k < P.length
    · obtain ⟨b1, o1, rfl, hb1, x1, x2, ai, ci, x3, x4⟩ := (h1.below HQ.out).get hlt
      obtain ⟨b2, o2, rfl, hb2, y1, y2, aj, cj, y3, y4⟩ := (h2.below HQ.out).get hlt
      have hql := HI.out (P.getD k ((0, 0), [])) (by simp [List.getD_eq_getElem?_getD, hlt])
      generalize P.getD k ((0, 0), []) = q at *
      obtain ⟨⟨lo, hi⟩, I⟩ := q
      simp only at x1 x2 x3 x4 y1 y2 y3 y4 hql
      have HX4 := hide x4
      have HY4 := hide y4
      have hn := ints_any ai aj ci cj I I wr.drew hql (x4.below (Below.refl _ _).drew) (y4.below (Below.refl _ _).drew)
      rw [decide_eq_true rfl] at hn
      clear h1 h2 x4 y4
      go_wp2
      go_region_held3 (fun w' => w'.cell? ⟨b1, o1 + k * 3 + 2, none⟩ = some (.slice ai I.length ci) ∧ w'.cell? ⟨b2, o2 + k * 3 + 2, none⟩ = some (.slice aj I.length cj)) (first | assumption | (simp [go_sem, *]; done))
        (first | (go_at_call 35; refine hn.mono ?_; rintro e w2 ⟨rfl, q2⟩; have j1 : w2.cell? ⟨b1, o1 + k * 3 + 2, none⟩ = some (.slice ai I.length ci) := ((q2.cell (p := ⟨b1, _, none⟩) hb1).trans x3); have j2 : w2.cell? ⟨b2, o2 + k * 3 + 2, none⟩ = some (.slice aj I.length cj) := ((q2.cell (p := ⟨b2, _, none⟩) hb2).trans y3); have z1 : w2.cell? ⟨b1, o1 + k * 3, none⟩ = some (.int .i64 lo) := ((q2.cell (p := ⟨b1, _, none⟩) hb1).trans x1); have z2 : w2.cell? ⟨b1, o1 + k * 3 + 1, none⟩ = some (.int .i64 hi) := ((q2.cell (p := ⟨b1, _, none⟩) hb1).trans x2); have z3 : w2.cell? ⟨b2, o2 + k * 3, none⟩ = some (.int .i64 lo) := ((q2.cell (p := ⟨b2, _, none⟩) hb2).trans y1); have z4 : w2.cell? ⟨b2, o2 + k * 3 + 1, none⟩ = some (.int .i64 hi) := ((q2.cell (p := ⟨b2, _, none⟩) hb2).trans y2); have X2 : Hid (Below w.heap.size w w2) := (HQ.out.drew.trans (q2.mono HQ.out.size)); clear q2))
      clear x1 x2 x3 y1 y2 y3 j1 j2
      go_wp2
      go_quiet (fail)
      go_wp2
      go_roundw
      case rel => exact ⟨k + 1, by omega, by go_num, X2.out.trans (below_drewN _ _ _)⟩
      case measure => simp [intOf]; omega
    · have h8 : ¬ (k : Int) < P.length := by omega
      go_wp2
      go_ret
      exact ⟨rfl, HQ.out⟩
end Go.Proofs.Ytljagefcgijmlaa
