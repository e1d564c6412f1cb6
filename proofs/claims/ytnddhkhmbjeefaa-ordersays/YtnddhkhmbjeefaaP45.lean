/-
  ints by its contract. Condition: lists that a machine can hold.
-/
import Derived.Test.YtnddhkhmbjeefaaP33
import Derived.WalkSmall
import Derived.Test.YtnddhkhmbjeefaaP03
import Derived.Test.YtnddhkhmbjeefaaP40
import Derived.Test.YtnddhkhmbjeefaaP35
import Derived.Maps.AppendAt
namespace Go.Proofs.Ytnddhkhmbjeefaa
open Go.RowKit Go.Lib Go.Maps

set_option maxRecDepth 100000 in
set_option maxHeartbeats 1000000 in
theorem ints_any (a1 a2 : Option Addr) (c1 c2 : Nat) (I J : List Int) (w : World) (hl : I.length ≤ 140737488351232) (h1 : ZAt w a1 I) (h2 : ZAt w a2 J) :
    Calls Try.prog 23 #[.slice a1 I.length c1, .slice a2 J.length c2] w fun e w' => e = .returned (.bool (decide (I = J))) ∧ Below w.heap.size w w' := by
  by_cases hlen : I.length = J.length
  · go_enter Try.func23, Try.ntmps23
    rw [hlen] at hl ⊢
    have HL := hide hlen
    have H1 := hide h1
    have H2 := hide h2
    clear hlen h1 h2
    go_wp2
    go_loopw [5] (fun i wr => ∃ k : Nat, k ≤ J.length ∧ i = .int .i64 k ∧ Hid (∀ j, j < k → I.getD j 0 = J.getD j 0) ∧ Hid (Below w.heap.size w wr)) (fun i _ => J.length - (RowKit.intOf i).toNat)
    case atStart => exact ⟨0, Nat.zero_le _, rfl, fun j hj => absurd hj (by omega), Below.refl _ _⟩
    case round =>
      obtain ⟨k, hk, rfl, hok, HQ⟩ := hrel
      by_cases hlt : k < J.length
      · obtain ⟨b, off, rfl, hb, hc⟩ := H1.out.get (i := k) (by have := HL.out; omega)
        obtain ⟨b', off', rfl, hb', hc'⟩ := H2.out.get hlt
        have q1 := (HQ.out.cell (p := ⟨b, off + k, none⟩) hb).trans hc
        have q3 := (HQ.out.cell (p := ⟨b', off' + k, none⟩) hb').trans hc'
        obtain ⟨s, hs⟩ : ∃ s, s = I.getD k 0 := ⟨_, rfl⟩
        obtain ⟨t, ht⟩ : ∃ t, t = J.getD k 0 := ⟨_, rfl⟩
        rw [← hs] at q1
        rw [← ht] at q3
        have HS := hide hs
        have HT := hide ht
        clear hs ht hc hc'
        by_cases e1 : s = t
        · subst e1
          go_wp2
          go_quiet (fail)
          go_wp2
          go_roundw
          case rel =>
            refine ⟨k + 1, by omega, by go_num, fun j hj => ?_, below_drewN HQ.out _⟩
            rcases Nat.lt_or_ge j k with h | h
            · exact hok.out j h
            · rw [show j = k by omega, ← HS.out, ← HT.out]
          case measure => simp [RowKit.intOf]; omega
        · have HF : Hid (decide (I = J) = false) := decide_eq_false fun e => e1 (by rw [HS.out, HT.out, e])
          go_wp2
          go_quiet (fail)
          go_wp2
          go_ret
          exact ⟨by rw [HF.out]; rfl, below_drewN HQ.out _⟩
      · have h8 : k = J.length := by omega
        subst h8
        go_wp2
        go_ret
        refine ⟨?_, HQ.out⟩
        have : I = J := by
          apply List.ext_getElem HL.out
          intro j h3 h4
          have := hok.out j h4
          rwa [List.getD_eq_getElem?_getD, List.getElem?_eq_getElem h3, List.getD_eq_getElem?_getD, List.getElem?_eq_getElem h4] at this
        rw [decide_eq_true this]
        rfl
  · have HF : Hid (decide (I = J) = false) := decide_eq_false fun e => hlen (by rw [e])
    have hl' : ¬ ((I.length : Int) = (J.length : Int)) := by omega
    go_enter Try.func23, Try.ntmps23
    go_wp2
    go_ret
    exact ⟨by rw [HF.out]; rfl, Below.refl _ _⟩
end Go.Proofs.Ytnddhkhmbjeefaa
/-
  add and size by their contracts. Condition: lists that a machine can hold.
-/
namespace Go.Proofs.Ytnddhkhmbjeefaa
open Go.RowKit Go.Lib Go.Maps

/-- A node, raw, as it lies in memory. -/
structure RW where
  lv : Int
  ka : Option Addr
  kc : Nat
  ks : List Int
structure RawAt (w : World) (no : Option Addr) (Ns : List RW) : Prop where
  at' : Ns = [] ∨ ∃ b off, no = some ⟨b, off, none⟩ ∧ b < w.heap.size ∧ ∀ i (h : i < Ns.length), w.cell? ⟨b, off + i * 2, none⟩ = some (.int .i64 (Ns[i]).lv) ∧ w.cell? ⟨b, off + i * 2 + 1, none⟩ = some (.slice (Ns[i]).ka (Ns[i]).ks.length (Ns[i]).kc)
  kids : ∀ x ∈ Ns, ZAt w x.ka x.ks ∧ x.ks.length ≤ 140737488351232
theorem RawAt.below {w w' : World} {no : Option Addr} {Ns : List RW} (h : RawAt w no Ns) (y : Below w.heap.size w w') : RawAt w' no Ns := by
  refine ⟨?_, fun x hx => ⟨(h.kids x hx).1.below y, (h.kids x hx).2⟩⟩
  rcases h.at' with e | ⟨b, off, e, hb, hc⟩
  · exact .inl e
  · exact .inr ⟨b, off, e, Nat.lt_of_lt_of_le hb y.size, fun i hi => ⟨(y.cell (p := ⟨b, off + i * 2, none⟩) hb).trans (hc i hi).1, (y.cell (p := ⟨b, off + i * 2 + 1, none⟩) hb).trans (hc i hi).2⟩⟩
theorem min_run (x y : Int) : ∃ t, (∀ W, (Builtin.min_ #[3, 3] 3 #[.int .i64 x, .int .i64 y]).run Try.prog W = .ok (.int .i64 t) W) ∧ t ≤ x ∧ t ≤ y ∧ (t = x ∨ t = y) := by
  refine ⟨if y < x then y else x, fun W => rfl, ?_, ?_, ?_⟩
  · split <;> omega
  · split <;> omega
  · split
    · exact .inr rfl
    · exact .inl rfl
section
variable {w : World}
set_option maxRecDepth 100000 in
set_option maxHeartbeats 1000000 in
theorem add_any (n m : Int) (h0 : 0 ≤ n) (h1 : n ≤ 1125899906842624) (h2 : 0 ≤ m) (h3 : m ≤ 1125899906842624) :
    Calls Try.prog 6 #[.int .i64 n, .int .i64 m] w fun e w' => (∃ s, e = .returned (.int .i64 s) ∧ 0 ≤ s ∧ s ≤ 2147483648) ∧ w' = w := by
  have e1 : IntKind.i64.wrap (2147483647 - n) = 2147483647 - n := by simp [IntKind.wrap, IntKind.bits, IntKind.signed]; omega
  have e2 : IntKind.i64.wrap (n + m) = n + m := by simp [IntKind.wrap, IntKind.bits, IntKind.signed]; omega
  by_cases hg : 2147483647 - n < m
  · go_enter Try.func6, Try.ntmps6
    go_wp2
    go_ret
    exact ⟨⟨_, rfl, by decide, by decide⟩, rfl⟩
  · go_enter Try.func6, Try.ntmps6
    go_wp2
    go_ret
    exact ⟨⟨_, rfl, by omega, by omega⟩, rfl⟩
set_option maxRecDepth 100000 in
set_option maxHeartbeats 4000000 in
theorem size_any (ao no ro : Option Addr) (l1 c1 c2 l3 c3 : Nat) (Ns : List RW) (hn : RawAt w no Ns) (hl1 : l1 ≤ 140737488351232) (hl2 : Ns.length ≤ 140737488351232) (hl3 : l3 ≤ 140737488351232) :
    Calls Try.prog 7 #[.agg #[.slice ao l1 c1, .slice no Ns.length c2, .slice ro l3 c3]] w fun e w' => (∃ s, e = .returned (.int .i64 s) ∧ 0 ≤ s ∧ s ≤ 21474836470) ∧ Below w.heap.size w w' := by
  obtain ⟨w1, hw1⟩ : ∃ w1, w.alloc (.cells #[.slice ao l1 c1, .slice no Ns.length c2, .slice ro l3 c3] 25) = w1 := ⟨_, rfl⟩
  have X1 : Hid (Below w.heap.size w w1) := by rw [← hw1]; exact al (Below.refl _ _) _
  have B1 : w1.heap[w.heap.size]? = some (.cells #[.slice ao l1 c1, .slice no Ns.length c2, .slice ro l3 c3] 25 (0, 0)) := by rw [← hw1]; exact heap_alloc_new w _
  have q0 : w1.cell? ⟨w.heap.size, 0, none⟩ = some (.slice ao l1 c1) := by rw [cell_of_row w1 _ _ _ _ _ B1]; rfl
  have q1 : w1.cell? ⟨w.heap.size, 1, none⟩ = some (.slice no Ns.length c2) := by rw [cell_of_row w1 _ _ _ _ _ B1]; rfl
  have q2 : w1.cell? ⟨w.heap.size, 2, none⟩ = some (.slice ro l3 c3) := by rw [cell_of_row w1 _ _ _ _ _ B1]; rfl
  have HN := hide (hn.below X1.out)
  have A1 := hide (add_any (w := w1) (l1 : Int) (l3 : Int) (by omega) (by omega) (by omega) (by omega))
  clear hn B1
  go_enter Try.func7, Try.ntmps7
  go_upto_region 1 with fail
  try rw [hw1]
  clear hw1
  go_wp2_with (first
    | (go_at_call 6; refine A1.out.mono ?_; clear A1; rintro e w2 ⟨⟨s0, rfl, hs0, hs1⟩, h⟩; rw [h]; clear h; obtain ⟨t0, hmin, ht1, ht2, ht3⟩ := min_run s0 2147483647; have ht4 : 0 ≤ t0 := (by rcases ht3 with e | e <;> omega); have em : IntKind.i64.wrap (10 * t0) = 10 * t0 := (by simp [IntKind.wrap, IntKind.bits, IntKind.signed]; omega); have HT := hide ht3; clear ht3))
  go_loopw [3, 4] (fun v3 v4 wr => ∃ (s : Int) (k : Nat), v3 = .int .i64 s ∧ v4 = .int .i64 (k : Int) ∧ k ≤ Ns.length ∧ 0 ≤ s ∧ s ≤ 21474836470 ∧ Hid (wr = w1)) (fun _ v _ => Ns.length - (RowKit.intOf v).toNat)
  case atStart => exact ⟨10 * t0, 0, rfl, rfl, Nat.zero_le _, by omega, by omega, rfl⟩
  case round =>
    obtain ⟨s, k, rfl, rfl, hk, hsa, hsb, HW⟩ := hrel
    rw [HW.out]
    clear HW hmin em
    by_cases hlk : k < Ns.length
    · have hlk' : (k : Int) < (Ns.length : Int) := by omega
      by_cases hsm : s ≤ 2147483647
      · obtain ⟨b, off, hno, hb, hcl⟩ := HN.out.at'.resolve_left (fun e => by rw [e] at hlk; cases hlk)
        subst hno
        obtain ⟨p1, p2⟩ := hcl k hlk
        obtain ⟨z, hz⟩ : ∃ z, Ns[k] = z := ⟨_, rfl⟩
        have hzl : z.ks.length ≤ 140737488351232 := by rw [← hz]; exact (HN.out.kids _ (List.getElem_mem hlk)).2
        rw [hz] at p1 p2
        clear hz hcl
        obtain ⟨t1, hmin1, hu1, hu2, hu3⟩ := min_run (z.ks.length : Int) 2147483647
        have hu4 : 0 ≤ t1 := by rcases hu3 with e | e <;> omega
        have em1 : IntKind.i64.wrap (10 * t1) = 10 * t1 := by simp [IntKind.wrap, IntKind.bits, IntKind.signed]; omega
        have HU := hide hu3
        clear hu3
        have A2 := hide (add_any (w := w1) 200 (10 * t1) (by decide) (by decide) (by omega) (by omega))
        have A3 : Hid (∀ s2, 0 ≤ s2 → s2 ≤ 2147483648 → Calls Try.prog 6 #[.int .i64 s, .int .i64 s2] w1 fun e w' => (∃ s, e = .returned (.int .i64 s) ∧ 0 ≤ s ∧ s ≤ 2147483648) ∧ w' = w1) := fun s2 h1 h2 => add_any s s2 hsa (by omega) h1 (by omega)
        go_upto_region 4 with (first
          | (go_at_call 6; refine A2.out.mono ?_; clear A2; rintro e w3 ⟨⟨s2, rfl, hv0, hv1⟩, h⟩; rw [h]; clear h)
          | (go_at_call 6; refine (A3.out s2 hv0 hv1).mono ?_; clear A3; rintro e w4 ⟨⟨s3, rfl, hx0, hx1⟩, h⟩; rw [h]; clear h))
        go_wp2
        go_roundw
        case rel => exact ⟨s3, k + 1, rfl, by go_num, by omega, hx0, by omega, by first | exact rfl | exact trivial⟩
        case measure => simp [RowKit.intOf]; omega
      · have hsm' : 2147483647 < s := by omega
        go_wp2
        go_ret
        exact ⟨⟨_, rfl, hsa, hsb⟩, X1.out⟩
    · have hlk' : ¬ (k : Int) < (Ns.length : Int) := by omega
      go_wp2
      go_ret
      exact ⟨⟨_, rfl, hsa, hsb⟩, X1.out⟩
end
end Go.Proofs.Ytnddhkhmbjeefaa
/-
  Two lists of numbers, of which one grows; orders out of numbers. No condition.
-/
namespace Go.Proofs.Ytnddhkhmbjeefaa
open Go.RowKit Go.Lib Go.Maps

structure PmI (w0 w : World) (v1 : Value) (L1 : List Int) (v2 : Value) (L2 : List Int) : Prop where
  bel : Below w0.heap.size w0 w
  r1 : w.ownsRow w0.heap.size 3 1 v1 L1.length (zC L1)
  r2 : w.ownsRow w0.heap.size 3 1 v2 L2.length (zC L2)
  n12 : ∀ j, v1.ownBlock = some j → v2.ownBlock ≠ some j
section
variable {w0 w w' : World} {v1 v2 : Value} {L1 L2 : List Int}
theorem PmI.below (h : PmI w0 w v1 L1 v2 L2) (y : Below w.heap.size w w') : PmI w0 w' v1 L1 v2 L2 := ⟨bt h.bel y (Nat.le_refl _), own_below h.r1 y, own_below h.r2 y, h.n12⟩
theorem PmI.push {xW : World} {x : Int} {g cap : Nat} (h : PmI w0 w v1 L1 v2 L2) (y : Below w.heap.size w xW) (O : w'.ownsRow w0.heap.size 3 1 (.slice (some ⟨g, 0, none⟩) (L2.length + 1) cap) (L2.length + 1) (zC L2 ++ [.int .i64 x])) (G : xW.grownBy w' v2.ownBlock) (hg : v2.ownBlock = some g ∨ g = xW.heap.size) :
    PmI w0 w' v1 L1 (.slice (some ⟨g, 0, none⟩) (L2 ++ [x]).length cap) (L2 ++ [x]) := by
  have hx := h.below y
  have k : Kept (fun j => v2.ownBlock = some j) xW w' := (Kept.refl _ xW).grown G (fun _ e => e)
  have hl : (L2 ++ [x]).length = L2.length + 1 := by simp
  refine ⟨hx.bel.trans (k.below hx.bel.size (fun j hj => (own_low hx.r2 hj).1)), own_kept hx.r1 k (fun j hj e => hx.n12 j hj e), ?_, fun j hj e => ?_⟩
  · rw [hl, show zC (L2 ++ [x]) = zC L2 ++ [.int .i64 x] by simp [zC]]
    exact O
  · have : g = j := by simpa [Value.ownBlock] using e
    subst this
    rcases hg with e | e
    · exact hx.n12 _ hj e
    · have := (own_low hx.r1 hj).2
      omega
/-- The first list is written anew, in memory of its own. -/
theorem PmI.anew {w1 w2 : World} {vm v3 : Value} {j : Nat} (h : PmI w0 w v1 L1 v2 L2) (hj : j < L1.length) (G1 : w.grownBy w1 none) (B1 : vm.ownBlock = none ∨ vm.ownBlock = some w.heap.size)
    (O2 : w2.ownsRow w0.heap.size 3 1 v3 (j + (L1.length - (j + 1))) ((zC L1).take j ++ (zC L1).drop (j + 1))) (G2 : w1.grownBy w2 vm.ownBlock) (B2 : v3.ownBlock = vm.ownBlock ∨ v3.ownBlock = some w1.heap.size) :
    PmI w0 w2 v3 (L1.eraseIdx j) v2 L2 := by
  have k1 : Below w.heap.size w w1 := (kept_grown G1).below (Nat.le_refl _) (fun _ e => by cases e)
  have k2 := kept_grown G2
  have hvm : ∀ z, vm.ownBlock = some z → w.heap.size ≤ z := fun z hz => by
    rcases B1 with e | e
    · rw [e] at hz; cases hz
    · rw [e] at hz
      have := Option.some.inj hz
      omega
  have h1 := h.below k1
  have hsz := h.bel.size
  have hsz1 := k1.size
  have he : (L1.eraseIdx j).length = j + (L1.length - (j + 1)) := by rw [List.length_eraseIdx_of_lt hj]; omega
  have hz : zC (L1.eraseIdx j) = (zC L1).take j ++ (zC L1).drop (j + 1) := by
    rw [List.eraseIdx_eq_take_drop_succ]
    simp [zC, List.map_take, List.map_drop]
  refine ⟨h1.bel.trans (k2.below h1.bel.size (fun z hz => by have := hvm z hz; omega)), by rw [he, hz]; exact O2, own_kept h1.r2 k2 (fun z hz e => ?_), fun z hz e => ?_⟩
  · have := hvm z e
    have := (own_low h.r2 hz).2
    omega
  · have h3 := (own_low h.r2 e).2
    rcases B2 with e2 | e2
    · rw [e2] at hz
      have := hvm z hz
      omega
    · rw [e2] at hz
      have := Option.some.inj hz
      omega
end
/-- What is known of an order that is being made. -/
structure PmP (raw : List Int) (n k : Nat) (O L : List Int) : Prop where
  lo : O.length = k
  ll : L.length = n - k
  pm : (O ++ L).Perm (lows n)
  id : raw = [] → O = (lows n).take k ∧ L = (lows n).drop k
section
variable {raw : List Int} {n k j : Nat} {O L : List Int}
theorem lows_len : (lows n).length = n := by simp [lows]
theorem PmP.start : PmP raw n 0 [] (lows n) := ⟨rfl, by rw [lows_len]; omega, List.Perm.refl _, fun _ => ⟨rfl, rfl⟩⟩
theorem PmP.step (h : PmP raw n k O L) (hj : j < L.length) (h0 : raw = [] → j = 0) : PmP raw n (k + 1) (O ++ [L[j]]) (L.eraseIdx j) := by
  have hl := h.ll
  refine ⟨by rw [List.length_append, h.lo]; rfl, by rw [List.length_eraseIdx_of_lt hj]; omega, ?_, fun hr => ?_⟩
  · refine List.Perm.trans ?_ h.pm
    rw [List.append_assoc]
    refine List.Perm.append_left O ?_
    have : L = L.take j ++ L[j] :: L.drop (j + 1) := by rw [← List.drop_eq_getElem_cons hj, List.take_append_drop]
    have e : L.eraseIdx j = L.take j ++ L.drop (j + 1) := List.eraseIdx_eq_take_drop_succ _ _
    rw [e]
    refine List.Perm.trans ?_ (List.Perm.of_eq this.symm)
    show (L[j] :: (L.take j ++ L.drop (j + 1))).Perm _
    exact (List.perm_middle).symm
  · obtain ⟨e1, e2⟩ := h.id hr
    have hj0 := h0 hr
    subst hj0
    have hk : k < (lows n).length := by rw [lows_len]; omega
    have hd := List.drop_eq_getElem_cons hk
    have e3 : L[0] = (lows n)[k] := by
      simp only [e2, hd]
      rfl
    refine ⟨by rw [e3, e1, List.take_succ_eq_append_getElem hk], ?_⟩
    rw [e2, hd]
    rfl
theorem PmP.done (h : PmP raw n n O L) : O.Perm (lows n) ∧ (raw = [] → O = lows n) := by
  have hl : L = [] := List.length_eq_zero_iff.1 (by rw [h.ll]; omega)
  have h1 := h.pm
  rw [hl, List.append_nil] at h1
  exact ⟨h1, fun hr => by rw [(h.id hr).1]; exact List.take_of_length_le (by rw [lows_len]; exact Nat.le_refl _)⟩
end
end Go.Proofs.Ytnddhkhmbjeefaa
