/-
  Has, Size, allRight, spans, ints and addsUp by their contracts; lists of lists of spans as they lie in memory. No condition but that a list is no longer than a process can hold.
-/
import Derived.Test.YtaiijdnfimclbaaMem
namespace Go.Proofs.Ytaiijdnfimclbaa
open Go.RowKit Go.Lib

theorem below_drewN (B : Nat) (w : World) (q : Nat) : Below B w (w.drewN q) := ⟨rfl, rfl, rfl, Nat.le_refl _, fun _ _ => rfl⟩

theorem hasC_any (lo hi n : Int) (nb : Nat) (w : World) (hn : w.cell? ⟨nb, 0, none⟩ = some (.int .i64 n)) (hlt : nb < w.heap.size) :
    Calls Try.prog 75 #[.agg #[.int .i64 lo, .int .i64 hi], .pointer (some ⟨nb, 0, none⟩)] w fun e w' => e = .returned (.bool (decide (lo ≤ n) && decide (n ≤ hi))) ∧ Below w.heap.size w w' := by
  have q : (w.alloc (.cells #[.int .i64 lo, .int .i64 hi] 59)).cell? ⟨nb, 0, none⟩ = some (.int .i64 n) := by rw [World.cell?_alloc_past _ _ _ hlt]; exact hn
  by_cases h1 : lo ≤ n
  · by_cases h2 : n ≤ hi
    · rw [decide_eq_true h1, decide_eq_true h2]
      go_enter Try.func75, Try.ntmps75
      go_wp2
      go_ret
      exact ⟨rfl, (Below.refl _ _).alloc (Nat.le_refl _) _⟩
    · rw [decide_eq_true h1, decide_eq_false h2]
      go_enter Try.func75, Try.ntmps75
      go_wp2
      go_ret
      exact ⟨rfl, (Below.refl _ _).alloc (Nat.le_refl _) _⟩
  · rw [decide_eq_false h1, Bool.false_and]
    go_enter Try.func75, Try.ntmps75
    go_wp2
    go_ret
    exact ⟨rfl, (Below.refl _ _).alloc (Nat.le_refl _) _⟩

/-- The first place whose span has n. -/
def idxOf (n : Int) : List Spn → Option Nat
  | [] => none
  | s :: L => if (decide (s.1 ≤ n) && decide (n ≤ s.2)) = true then some 0 else (idxOf n L).map (· + 1)
theorem memB_of_at {L : List Spn} {n : Int} {k : Nat} (hk : k < L.length) (h : ((decide ((L.getD k (0, 0)).1 ≤ n) && decide (n ≤ (L.getD k (0, 0)).2)) = true)) : memB n L = true := by
  rw [memB_iff]
  refine ⟨L[k], List.getElem_mem hk, ?_⟩
  simpa [List.getD_eq_getElem?_getD, hk] using h
theorem memB_of_none {L : List Spn} {n : Int} (h : ∀ k, k < L.length → ((decide ((L.getD k (0, 0)).1 ≤ n) && decide (n ≤ (L.getD k (0, 0)).2)) = false)) : memB n L = false := by
  cases e : memB n L with
  | false => rfl
  | true =>
    obtain ⟨s, hs, h1, h2⟩ := (memB_iff n L).1 e
    obtain ⟨k, hk, rfl⟩ := List.getElem_of_mem hs
    have := h k hk
    simp [List.getD_eq_getElem?_getD, hk, h1, h2] at this

set_option maxRecDepth 100000 in
set_option maxHeartbeats 1000000 in
theorem indexF_any (ao : Option Addr) (cap : Nat) (L : List Spn) (n : Int) (nb : Nat) (w : World) (hl : L.length ≤ 140737488351232) (hat : SpAt w ao L) (hn : w.cell? ⟨nb, 0, none⟩ = some (.int .i64 n)) (hlt0 : nb < w.heap.size) :
    Calls Try.prog 86 #[.slice ao L.length cap, .func (.func 75) #[] #[.pointer (some ⟨nb, 0, none⟩)]] w fun e w' => (∃ i : Int, e = .returned (.int .i64 i) ∧ decide (0 ≤ i) = memB n L) ∧ Below w.heap.size w w' := by
  go_enter Try.func86, Try.ntmps86
  go_wp2
  go_loopw [8] (fun i wr => ∃ k : Nat, k ≤ L.length ∧ i = .int .i64 k ∧ Hid (∀ k', k' < k → ((decide ((L.getD k' (0, 0)).1 ≤ n) && decide (n ≤ (L.getD k' (0, 0)).2)) = false)) ∧ Below w.heap.size w wr) (fun i _ => L.length - (intOf i).toNat)
  case atStart => exact ⟨0, Nat.zero_le _, rfl, fun j hj => absurd hj (by omega), Below.refl _ _⟩
  case round =>
    obtain ⟨k, hk, rfl, hok, hq⟩ := hrel
    have HQ := hide hq
    clear hq
    by_cases hlt : k < L.length
    · obtain ⟨b, off, rfl, hb, hc⟩ := hat.get hlt
      obtain ⟨c1, c2⟩ := (hc k hlt).below HQ.out hb
      have hn' := (HQ.out.cell (p := ⟨nb, 0, none⟩) hlt0).trans hn
      have hlt1 := Nat.lt_of_lt_of_le hlt0 HQ.out.size
      obtain ⟨s, hs⟩ : ∃ s, s = L.getD k (0, 0) := ⟨_, rfl⟩
      rw [← hs] at c1 c2
      have HS := hide hs
      have hcon := hasC_any s.1 s.2 n nb wr hn' hlt1
      clear hs hc hat
      by_cases hm : (decide (s.1 ≤ n) && decide (n ≤ s.2)) = true
      · rw [hm] at hcon
        go_wp2_with (go_at_call 75; refine hcon.mono ?_; rintro e w2 ⟨rfl, x2⟩; have X2 := hide x2; clear x2)
        go_ret
        exact ⟨⟨(k : Int), rfl, by rw [memB_of_at hlt (by rw [← HS.out]; exact hm)]; simp⟩, HQ.out.trans (X2.out.mono HQ.out.size)⟩
      · rw [Bool.not_eq_true] at hm
        rw [hm] at hcon
        go_wp2_with (go_at_call 75; refine hcon.mono ?_; rintro e w2 ⟨rfl, x2⟩; have X2 := hide x2; clear x2)
        go_roundw
        case rel =>
          refine ⟨k + 1, by omega, by go_num, fun j hj => ?_, HQ.out.trans (X2.out.mono HQ.out.size)⟩
          rcases Nat.lt_or_ge j k with h | h
          · exact hok.out j h
          · rw [show j = k by omega, ← HS.out]; exact hm
        case measure => simp [intOf]; omega
    · have h8 : k = L.length := by omega
      subst h8
      go_wp2
      go_ret
      exact ⟨⟨-1, rfl, by rw [memB_of_none hok.out]; rfl⟩, HQ.out⟩

theorem contains_any (ao : Option Addr) (cap : Nat) (L : List Spn) (n : Int) (nb : Nat) (w : World) (hl : L.length ≤ 140737488351232) (hat : SpAt w ao L) (hn : w.cell? ⟨nb, 0, none⟩ = some (.int .i64 n)) (hlt0 : nb < w.heap.size) :
    Calls Try.prog 74 #[.slice ao L.length cap, .func (.func 75) #[] #[.pointer (some ⟨nb, 0, none⟩)]] w fun e w' => e = .returned (.bool (memB n L)) ∧ Below w.heap.size w w' := by
  have hcon := indexF_any ao cap L n nb w hl hat hn hlt0
  clear hat hn
  go_enter Try.func74, Try.ntmps74
  go_wp2_with (go_at_call 86; refine hcon.mono ?_; rintro e w2 ⟨⟨i, rfl, hi⟩, x2⟩; have X2 := hide x2; have HI := hide hi; clear x2 hi)
  go_ret
  exact ⟨by rw [← HI.out]; rfl, X2.out⟩

/-- Has. -/
def hasL (L : List Spn) (n : Int) : Bool := decide (IsSet L) && memB n L
theorem has_any (ao : Option Addr) (cap : Nat) (L : List Spn) (n : Int) (w : World) (hl : L.length ≤ 140737488351232) (hat : SpAt w ao L) :
    Calls Try.prog 60 #[.slice ao L.length cap, .int .i64 n] w fun e w' => e = .returned (.bool (hasL L n)) ∧ Below w.heap.size w w' := by
  have hmf : ∀ (fn : Fn) (first cap : Array Value) (w : World), (Instr.makeFunc fn first cap).run Try.prog w = .ok (.func fn first cap) w := fun _ _ _ _ => rfl
  have b1 : Below w.heap.size w (w.alloc (.cells #[.int .i64 n] 3)) := (Below.refl _ _).alloc (Nat.le_refl _) _
  have hr := right_any ao cap L (w.alloc (.cells #[.int .i64 n] 3)) hl (hat.below b1)
  by_cases hs : IsSet L
  · rw [decide_eq_true hs] at hr
    have e1 : hasL L n = memB n L := by simp [hasL, hs]
    rw [e1]
    have hc := fun (w2 : World) (h : Below (w.alloc (.cells #[.int .i64 n] 3)).heap.size (w.alloc (.cells #[.int .i64 n] 3)) w2) =>
      contains_any ao cap L n w.heap.size w2 hl ((hat.below b1).below h) ((h.cell (p := ⟨w.heap.size, 0, none⟩) (by simp)).trans (by simp)) (Nat.lt_of_lt_of_le (by simp) h.size)
    have HB := hide b1
    clear hat e1 b1
    go_enter Try.func60, Try.ntmps60
    go_wp2_with (first | (go_at_call 73; refine hr.mono ?_; rintro e w2 ⟨rfl, x2⟩; have X2 := hide x2; clear x2) | (go_at_call 74; refine (hc _ X2.out).mono ?_; rintro e w3 ⟨rfl, x3⟩; have X3 := hide x3; clear x3))
    go_ret
    exact ⟨rfl, HB.out.trans ((X2.out.mono (by simp)).trans (X3.out.mono (Nat.le_trans (by simp) X2.out.size)))⟩
  · rw [decide_eq_false hs] at hr
    have e1 : hasL L n = false := by simp [hasL, hs]
    rw [e1]
    have HB := hide b1
    clear hat e1 b1
    go_enter Try.func60, Try.ntmps60
    go_wp2_with (go_at_call 73; refine hr.mono ?_; rintro e w2 ⟨rfl, x2⟩; have X2 := hide x2; clear x2)
    go_ret
    exact ⟨rfl, HB.out.trans (X2.out.mono (by simp))⟩
end Go.Proofs.Ytaiijdnfimclbaa
