/-
  Has, Size, allRight, spans, ints and addsUp by their contracts; lists of lists of spans as they lie in memory. No condition but that a list is no longer than a process can hold.
-/
import Derived.Test.YtljagefcgijmlaaMem
namespace Go.Proofs.Ytljagefcgijmlaa
open Go.RowKit Go.Lib

theorem below_drewN (B : Nat) (w : World) (q : Nat) : Below B w (w.drewN q) := ⟨rfl, rfl, rfl, Nat.le_refl _, fun _ _ => rfl⟩

theorem hasC_any (lo hi n : Int) (nb : Nat) (w : World) (hn : w.cell? ⟨nb, 0, none⟩ = some (.int .i64 n)) (hlt : nb < w.heap.size) :
    Calls Try.prog 38 #[.agg #[.int .i64 lo, .int .i64 hi], .pointer (some ⟨nb, 0, none⟩)] w fun e w' => e = .returned (.bool (decide (lo ≤ n) && decide (n ≤ hi))) ∧ Below w.heap.size w w' := by
  have q : (w.alloc (.cells #[.int .i64 lo, .int .i64 hi] 46)).cell? ⟨nb, 0, none⟩ = some (.int .i64 n) := by rw [World.cell?_alloc_past _ _ _ hlt]; exact hn
  by_cases h1 : lo ≤ n
  · by_cases h2 : n ≤ hi
    · rw [decide_eq_true h1, decide_eq_true h2]
      go_enter Try.func38, Try.ntmps38
      go_wp2
      go_ret
      exact ⟨rfl, (Below.refl _ _).alloc (Nat.le_refl _) _⟩
    · rw [decide_eq_true h1, decide_eq_false h2]
      go_enter Try.func38, Try.ntmps38
      go_wp2
      go_ret
      exact ⟨rfl, (Below.refl _ _).alloc (Nat.le_refl _) _⟩
  · rw [decide_eq_false h1, Bool.false_and]
    go_enter Try.func38, Try.ntmps38
    go_wp2
    go_ret
    exact ⟨rfl, (Below.refl _ _).alloc (Nat.le_refl _) _⟩

/-- The first place whose span has n. -/
def idxOf (n : Int) : List Spn → Option Nat
  | [] => none
  | s :: L => if (decide (s.1 ≤ n) && decide (n ≤ s.2)) = true then some 0 else (idxOf n L).map (· + 1)
theorem memB_of_at {L : List Spn} {n : Int} {k : Nat} (hk : k < L.length) (h : ((decide ((L.getD k (0, 0)).1 ≤ n) && decide (n ≤ (L.getD k (0, 0)).2)) = true)) : memB n L = true := by
  rw [memB_iff]
  refine ⟨L[k], List.getElem_mem hk, ?_⟩
  simpa [List.getD_eq_getElem?_getD, hk] using h
theorem memB_of_none {L : List Spn} {n : Int} (h : ∀ k, k < L.length → ((decide ((L.getD k (0, 0)).1 ≤ n) && decide (n ≤ (L.getD k (0, 0)).2)) = false)) : memB n L = false := by
  cases e : memB n L with
  | false => rfl
  | true =>
    obtain ⟨s, hs, h1, h2⟩ := (memB_iff n L).1 e
    obtain ⟨k, hk, rfl⟩ := List.getElem_of_mem hs
    have := h k hk
    simp [List.getD_eq_getElem?_getD, hk, h1, h2] at this

set_option maxRecDepth 100000 in
set_option maxHeartbeats 1000000 in
theorem indexF_any (ao : Option Addr) (cap : Nat) (L : List Spn) (n : Int) (nb : Nat) (w : World) (hl : L.length ≤ 140737488351232) (hat : SpAt w ao L) (hn : w.cell? ⟨nb, 0, none⟩ = some (.int .i64 n)) (hlt0 : nb < w.heap.size) :
    Calls Try.prog 58 #[.slice ao L.length cap, .func (.func 38) #[] #[.pointer (some ⟨nb, 0, none⟩)]] w fun e w' => (∃ i : Int, e = .returned (.int .i64 i) ∧ decide (0 ≤ i) = memB n L) ∧ Below w.heap.size w w' := by
  go_enter Try.func58, Try.ntmps58
  go_wp2
  go_loopw [8] (fun i wr => ∃ k : Nat, k ≤ L.length ∧ i = .int .i64 k ∧ Hid (∀ k', k' < k → ((decide ((L.getD k' (0, 0)).1 ≤ n) && decide (n ≤ (L.getD k' (0, 0)).2)) = false)) ∧ Below w.heap.size w wr) (fun i _ => L.length - (intOf i).toNat)
  case atStart => exact ⟨0, Nat.zero_le _, rfl, fun j hj => absurd hj (by omega), Below.refl _ _⟩
  case round =>
    obtain ⟨k, hk, rfl, hok, hq⟩ := hrel
    have HQ := hide hq
    clear hq
    by_cases hlt : k < L.length
    · obtain ⟨b, off, rfl, hb, hc⟩ := hat.get hlt
      obtain ⟨c1, c2⟩ := (hc k hlt).below HQ.out hb
      have hn' := (HQ.out.cell (p := ⟨nb, 0, none⟩) hlt0).trans hn
      have hlt1 := Nat.lt_of_lt_of_le hlt0 HQ.out.size
      obtain ⟨s, hs⟩ : ∃ s, s = L.getD k (0, 0) := ⟨_, rfl⟩
      rw [← hs] at c1 c2
      have HS := hide hs
      have hcon := hasC_any s.1 s.2 n nb wr hn' hlt1
      clear hs hc hat
      by_cases hm : (decide (s.1 ≤ n) && decide (n ≤ s.2)) = true
      · rw [hm] at hcon
        go_wp2_with (go_at_call 38; refine hcon.mono ?_; rintro e w2 ⟨rfl, x2⟩; have X2 := hide x2; clear x2)
        go_ret
        exact ⟨⟨(k : Int), rfl, by rw [memB_of_at hlt (by rw [← HS.out]; exact hm)]; simp⟩, HQ.out.trans (X2.out.mono HQ.out.size)⟩
      · rw [Bool.not_eq_true] at hm
        rw [hm] at hcon
        go_wp2_with (go_at_call 38; refine hcon.mono ?_; rintro e w2 ⟨rfl, x2⟩; have X2 := hide x2; clear x2)
        go_roundw
        case rel =>
          refine ⟨k + 1, by omega, by go_num, fun j hj => ?_, HQ.out.trans (X2.out.mono HQ.out.size)⟩
          rcases Nat.lt_or_ge j k with h | h
          · exact hok.out j h
          · rw [show j = k by omega, ← HS.out]; exact hm
        case measure => simp [intOf]; omega
    · have h8 : k = L.length := by omega
      subst h8
      go_wp2
      go_ret
      exact ⟨⟨-1, rfl, by rw [memB_of_none hok.out]; rfl⟩, HQ.out⟩

theorem contains_any (ao : Option Addr) (cap : Nat) (L : List Spn) (n : Int) (nb : Nat) (w : World) (hl : L.length ≤ 140737488351232) (hat : SpAt w ao L) (hn : w.cell? ⟨nb, 0, none⟩ = some (.int .i64 n)) (hlt0 : nb < w.heap.size) :
    Calls Try.prog 37 #[.slice ao L.length cap, .func (.func 38) #[] #[.pointer (some ⟨nb, 0, none⟩)]] w fun e w' => e = .returned (.bool (memB n L)) ∧ Below w.heap.size w w' := by
  have hcon := indexF_any ao cap L n nb w hl hat hn hlt0
  clear hat hn
  go_enter Try.func37, Try.ntmps37
  go_wp2_with (go_at_call 58; refine hcon.mono ?_; rintro e w2 ⟨⟨i, rfl, hi⟩, x2⟩; have X2 := hide x2; have HI := hide hi; clear x2 hi)
  go_ret
  exact ⟨by rw [← HI.out]; rfl, X2.out⟩

/-- Has. -/
def hasL (L : List Spn) (n : Int) : Bool := decide (IsSet L) && memB n L
theorem has_any (ao : Option Addr) (cap : Nat) (L : List Spn) (n : Int) (w : World) (hl : L.length ≤ 140737488351232) (hat : SpAt w ao L) :
    Calls Try.prog 12 #[.slice ao L.length cap, .int .i64 n] w fun e w' => e = .returned (.bool (hasL L n)) ∧ Below w.heap.size w w' := by
  have hmf : ∀ (fn : Fn) (first cap : Array Value) (w : World), (Instr.makeFunc fn first cap).run Try.prog w = .ok (.func fn first cap) w := fun _ _ _ _ => rfl
  have b1 : Below w.heap.size w (w.alloc (.cells #[.int .i64 n] 3)) := (Below.refl _ _).alloc (Nat.le_refl _) _
  have hr := right_any ao cap L (w.alloc (.cells #[.int .i64 n] 3)) hl (hat.below b1)
  by_cases hs : IsSet L
  · rw [decide_eq_true hs] at hr
    have e1 : hasL L n = memB n L := by simp [hasL, hs]
    rw [e1]
    have hc := fun (w2 : World) (h : Below (w.alloc (.cells #[.int .i64 n] 3)).heap.size (w.alloc (.cells #[.int .i64 n] 3)) w2) =>
      contains_any ao cap L n w.heap.size w2 hl ((hat.below b1).below h) ((h.cell (p := ⟨w.heap.size, 0, none⟩) (by simp)).trans (by simp)) (Nat.lt_of_lt_of_le (by simp) h.size)
    have HB := hide b1
    clear hat e1 b1
    go_enter Try.func12, Try.ntmps12
    go_wp2_with (first | (go_at_call 11; refine hr.mono ?_; rintro e w2 ⟨rfl, x2⟩; have X2 := hide x2; clear x2) | (go_at_call 37; refine (hc _ X2.out).mono ?_; rintro e w3 ⟨rfl, x3⟩; have X3 := hide x3; clear x3))
    go_ret
    exact ⟨rfl, HB.out.trans ((X2.out.mono (by simp)).trans (X3.out.mono (Nat.le_trans (by simp) X2.out.size)))⟩
  · rw [decide_eq_false hs] at hr
    have e1 : hasL L n = false := by simp [hasL, hs]
    rw [e1]
    have HB := hide b1
    clear hat e1 b1
    go_enter Try.func12, Try.ntmps12
    go_wp2_with (go_at_call 11; refine hr.mono ?_; rintro e w2 ⟨rfl, x2⟩; have X2 := hide x2; clear x2)
    go_ret
    exact ⟨rfl, HB.out.trans (X2.out.mono (by simp))⟩

/-- The numbers of the first k spans. -/
theorem sizeL_append (L M : List Spn) : sizeL (L ++ M) = sizeL L + sizeL M := by
  induction L with
  | nil => simp [sizeL]
  | cons s L ih => simp only [List.cons_append, sizeL, ih]; omega
theorem sizeL_take (L : List Spn) (k : Nat) (hk : k < L.length) : sizeL (L.take (k + 1)) = sizeL (L.take k) + ((L.getD k (0, 0)).2 - (L.getD k (0, 0)).1 + 1) := by
  rw [List.take_succ_eq_append_getElem hk, sizeL_append]
  simp [sizeL, List.getD_eq_getElem?_getD, hk]
theorem sizeL_bound (L : List Spn) (h : ∀ s ∈ L, Bnd s) : 0 ≤ sizeL L ∧ sizeL L ≤ 4294967296 * L.length := by
  induction L with
  | nil => simp [sizeL]
  | cons s L ih =>
    have := ih (fun t ht => h t (by simp [ht]))
    have hs := h s (by simp)
    unfold Bnd at hs
    simp only [sizeL, List.length_cons]
    omega
/-- Above all ends that a set has lies nothing: it has at most 2^32 numbers. -/
theorem sizeL_set : ∀ (L : List Spn) (m : Int), IsSet L → (∀ s ∈ L, m ≤ s.1) → 0 ≤ sizeL L ∧ (L ≠ [] → sizeL L ≤ 4294967296 - m)
  | [], _, _, _ => ⟨Int.le_refl _, fun h => absurd rfl h⟩
  | s :: L, m, h, hm => by
    have hs := h.head
    unfold Bnd at hs
    have h1 := hm s (by simp)
    obtain ⟨i1, i2⟩ := sizeL_set L (s.2 + 2) h.tail (List.pairwise_cons.1 h.2).1
    simp only [sizeL]
    refine ⟨by omega, fun _ => ?_⟩
    by_cases hL : L = []
    · subst hL; simp only [sizeL]; omega
    · have := i2 hL; omega
theorem IsSet.take {L : List Spn} (h : IsSet L) (k : Nat) : IsSet (L.take k) := ⟨fun s hs => h.1 s (List.mem_of_mem_take hs), h.2.sublist (List.take_sublist k L)⟩
theorem sizeL_le {L : List Spn} (h : IsSet L) : 0 ≤ sizeL L ∧ sizeL L ≤ 4294967296 := by
  obtain ⟨a, b⟩ := sizeL_set L 0 h (fun s hs => (h.1 s hs).1)
  refine ⟨a, ?_⟩
  by_cases hL : L = []
  · subst hL; decide
  · have := b hL; omega
def sizeR (L : List Spn) : Int := if IsSet L then sizeL L else 0

set_option maxRecDepth 100000 in
set_option maxHeartbeats 1000000 in
theorem size_any (ao : Option Addr) (cap : Nat) (L : List Spn) (w : World) (hl : L.length ≤ 140737488351232) (hat : SpAt w ao L) :
    Calls Try.prog 13 #[.slice ao L.length cap] w fun e w' => e = .returned (.int .i64 (sizeR L)) ∧ Below w.heap.size w w' := by
  have hr := right_any ao cap L w hl hat
  by_cases hs : IsSet L
  · rw [decide_eq_true hs] at hr
    have e1 : sizeR L = sizeL L := by simp [sizeR, hs]
    rw [e1]
    clear e1
    go_enter Try.func13, Try.ntmps13
    go_wp2_with (go_at_call 11; refine hr.mono ?_; rintro e w2 ⟨rfl, x2⟩; have X2 := hide x2; clear x2)
    clear hr
    go_loopw [3, 11] (fun t i wr => ∃ k : Nat, k ≤ L.length ∧ i = .int .i64 k ∧ t = .int .i64 (sizeL (L.take k)) ∧ Below w.heap.size w wr) (fun _ i _ => L.length - (intOf i).toNat)
    case atStart => exact ⟨0, Nat.zero_le _, rfl, by simp [sizeL], X2.out⟩
    case round =>
      obtain ⟨k, hk, rfl, rfl, hq⟩ := hrel
      have HQ := hide hq
      clear hq
      by_cases hlt : k < L.length
      · obtain ⟨b, off, rfl, hb, hc⟩ := hat.get hlt
        obtain ⟨c1, c2⟩ := (hc k hlt).below HQ.out hb
        have hst := sizeL_take L k hlt
        have hb1 := sizeL_le (hs.take k)
        have hb2 := sizeL_le (hs.take (k + 1))
        have hbd := (ok_of_isSet hs hlt).1
        unfold Bnd at hbd
        generalize L.getD k (0, 0) = s at c1 c2 hst hbd
        generalize sizeL (L.take k) = T at hst hb1 ⊢
        have HS := hide hst
        clear hc hat hst hb2
        go_wp2
        go_roundw
        case rel => exact ⟨k + 1, by omega, by go_num, by rw [HS.out], HQ.out.trans (((Below.refl _ _).alloc (Nat.le_refl _) _).mono HQ.out.size)⟩
        case measure => simp [intOf]; omega
      · have h8 : k = L.length := by omega
        subst h8
        rw [List.take_length]
        go_wp2
        go_ret
        exact ⟨rfl, HQ.out⟩
  · rw [decide_eq_false hs] at hr
    have e1 : sizeR L = 0 := by simp [sizeR, hs]
    rw [e1]
    clear hat e1
    go_enter Try.func13, Try.ntmps13
    go_wp2_with (go_at_call 11; refine hr.mono ?_; rintro e w2 ⟨rfl, x2⟩; have X2 := hide x2; clear x2)
    go_ret
    exact ⟨rfl, X2.out⟩

/-- addsUp. -/
theorem addsUp_any (n m : Int) (h0 : 0 ≤ n) (h1 : 0 ≤ m) (w : World) :
    Calls Try.prog 8 #[.int .i64 n, .int .i64 m] w fun e w' => (∃ N : Int, e = .returned (.int .i64 N) ∧ 0 ≤ N ∧ N ≤ 4294967294 ∧ (N ≤ 2147483647 → N = n + m)) ∧ w' = w := by
  by_cases a1 : n ≤ 2147483647
  · by_cases a2 : m ≤ 2147483647
    · go_enter Try.func8, Try.ntmps8
      go_wp2
      go_ret
      exact ⟨⟨n + m, rfl, by omega, by omega, fun _ => rfl⟩, rfl⟩
    · go_enter Try.func8, Try.ntmps8
      go_wp2
      go_ret
      exact ⟨⟨_, rfl, by omega, by omega, fun h => absurd h (by omega)⟩, rfl⟩
  · go_enter Try.func8, Try.ntmps8
    go_wp2
    go_ret
    exact ⟨⟨_, rfl, by omega, by omega, fun h => absurd h (by omega)⟩, rfl⟩

set_option maxRecDepth 100000 in
set_option maxHeartbeats 1000000 in
theorem spans_any (a1 a2 : Option Addr) (c1 c2 : Nat) (L M : List Spn) (w : World) (hl : L.length ≤ 140737488351232) (h1 : SpAt w a1 L) (h2 : SpAt w a2 M) :
    Calls Try.prog 34 #[.slice a1 L.length c1, .slice a2 M.length c2] w fun e w' => e = .returned (.bool (decide (L = M))) ∧ Below w.heap.size w w' := by
  by_cases hlen : L.length = M.length
  · go_enter Try.func34, Try.ntmps34
    rw [hlen] at hl ⊢
    go_wp2
    go_loopw [5] (fun i wr => ∃ k : Nat, k ≤ M.length ∧ i = .int .i64 k ∧ Hid (∀ j, j < k → L.getD j (0, 0) = M.getD j (0, 0)) ∧ Below w.heap.size w wr) (fun i _ => M.length - (intOf i).toNat)
    case atStart => exact ⟨0, Nat.zero_le _, rfl, fun j hj => absurd hj (by omega), Below.refl _ _⟩
    case round =>
      obtain ⟨k, hk, rfl, hok, hq⟩ := hrel
      have HQ := hide hq
      clear hq
      by_cases hlt : k < M.length
      · obtain ⟨b, off, rfl, hb, hc⟩ := h1.get (i := k) (by omega)
        obtain ⟨b', off', rfl, hb', hc'⟩ := h2.get hlt
        obtain ⟨q1, q2⟩ := (hc k (by omega)).below HQ.out hb
        obtain ⟨q3, q4⟩ := (hc' k hlt).below HQ.out hb'
        obtain ⟨s, hs⟩ : ∃ s, s = L.getD k (0, 0) := ⟨_, rfl⟩
        obtain ⟨t, ht⟩ : ∃ t, t = M.getD k (0, 0) := ⟨_, rfl⟩
        rw [← hs] at q1 q2
        rw [← ht] at q3 q4
        have HS := hide hs
        have HT := hide ht
        clear hs ht hc hc' h1 h2
        have fin : ¬ (s.1 = t.1 ∧ s.2 = t.2) → decide (L = M) = false := fun h => decide_eq_false fun e => h (by rw [HS.out, HT.out, e]; exact ⟨rfl, rfl⟩)
        by_cases e1 : s.1 = t.1
        · by_cases e2 : s.2 = t.2
          · have e3 : s = t := Prod.ext e1 e2
            subst e3
            clear fin
            go_wp2
            go_quiet (fail)
            go_wp2
            go_roundw
            case rel =>
              refine ⟨k + 1, by omega, by go_num, fun j hj => ?_, HQ.out.trans (below_drewN _ _ _)⟩
              rcases Nat.lt_or_ge j k with h | h
              · exact hok.out j h
              · rw [show j = k by omega, ← HS.out, ← HT.out]
            case measure => simp [intOf]; omega
          · have HF := hide (fin (fun h => e2 h.2))
            clear fin
            go_wp2
            go_quiet (fail)
            go_wp2
            go_ret
            exact ⟨by rw [HF.out]; rfl, HQ.out.trans (below_drewN _ _ _)⟩
        · have HF := hide (fin (fun h => e1 h.1))
          clear fin
          go_wp2
          go_quiet (fail)
          go_wp2
          go_ret
          exact ⟨by rw [HF.out]; rfl, HQ.out.trans (below_drewN _ _ _)⟩
      · have h8 : k = M.length := by omega
        subst h8
        go_wp2
        go_ret
        refine ⟨?_, HQ.out⟩
        rw [decide_eq_true (List.ext_getElem hlen fun i i1 i2 => by have := hok.out i i2; simpa [List.getD_eq_getElem?_getD, i1, i2] using this)]
        rfl
  · rw [decide_eq_false (fun e => hlen (by rw [e]))]
    have hne : ¬ ((L.length : Int) = (M.length : Int)) := by omega
    clear h1 h2
    go_enter Try.func34, Try.ntmps34
    go_wp2
    go_ret
    exact ⟨rfl, Below.refl _ _⟩
end Go.Proofs.Ytljagefcgijmlaa
