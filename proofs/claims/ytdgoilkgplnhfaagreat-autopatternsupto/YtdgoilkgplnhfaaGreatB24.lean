/-
  The reader's sees, member and item by their contracts. Condition: a text is no longer than a process can hold.
-/
import Derived.Test.YtdgoilkgplnhfaaGreatB08
import Derived.Test.YtdgoilkgplnhfaaGreatB03
import Derived.Lib.SliceRun
namespace Go.Proofs.YtdgoilkgplnhfaaGreat
open Go.RowKit Go.Lib

theorem idx_two (c : UInt8) : decide (0 ≤ Lib.indexByte [93, 45] ((c.toNat : Int).toNat.toUInt8)) = ([93].isPrefixOf [c] || [45].isPrefixOf [c]) := by
  rw [Int.toNat_natCast]
  show decide (0 ≤ Lib.indexByte [93, 45] (UInt8.ofNat c.toNat)) = _
  rw [UInt8.ofNat_toNat]
  unfold Lib.indexByte Lib.indexByte Lib.indexByte
  simp only [List.isPrefixOf, Bool.and_true]
  by_cases h1 : (93 == c) = true
  · simp [h1]
  · by_cases h2 : (45 == c) = true
    · simp [h1, h2]
    · simp [h1, h2]
set_option maxRecDepth 100000 in
set_option maxHeartbeats 2000000 in
theorem sees_any (rb : Nat) (p r : By) (w : World) (hl : (p ++ r).length ≤ 140737488351232) (h : RdAt w rb p r) :
    Calls Tryz.prog 164 #[.pointer (some ⟨rb, 0, none⟩), .string ⟨#[93, 45]⟩] w fun e w' => e = .returned (.bool ([93].isPrefixOf r || [45].isPrefixOf r)) ∧ Below w.heap.size w w' := by
  have c0 := h.c0
  have c1 := h.c1
  clear h
  cases r with
  | nil =>
    rw [List.append_nil] at c0
    go_enter Tryz.func164, Tryz.ntmps164
    go_wp2
    go_quiet (fail)
    go_wp2
    go_ret
    exact ⟨rfl, below_drewN _ _ _⟩
  | cons c r =>
    have hpl : p.length < (p ++ c :: r).length := by rw [List.length_append, List.length_cons]; omega
    have z1 : (p.length : Int) < ((p ++ c :: r).length : Int) := by omega
    obtain ⟨s, HS⟩ : ∃ s, Hid (s = p ++ c :: r) := ⟨_, rfl⟩
    have hg' : ∀ hk, (⟨s.toArray⟩ : ByteArray)[p.length]'hk = c := by rw [HS.out]; exact fun _ => (by rw [idx_str]; simp)
    rw [← HS.out] at c0 z1 hl hpl
    have HI := hide (fun w => idxByte_any [93, 45] (c.toNat : Int) w)
    have HT := hide (idx_two c)
    have HE : Hid (([93].isPrefixOf (c :: r) || [45].isPrefixOf (c :: r)) = ([93].isPrefixOf [c] || [45].isPrefixOf [c])) := by simp [Hid, List.isPrefixOf]
    generalize Lib.indexByte [93, 45] ((c.toNat : Int).toNat.toUInt8) = i at HI HT
    go_enter Tryz.func164, Tryz.ntmps164
    go_wp2
    go_region_held3 (fun w' => w'.cell? ⟨rb, 0, none⟩ = some (.string ⟨s.toArray⟩) ∧ w'.cell? ⟨rb, 1, none⟩ = some (.int .i64 (p.length : Nat))) (first | assumption | (simp [go_sem, *]; done))
      (first | (go_at_call 100; refine (HI.out _).mono ?_; rintro e w2 ⟨rfl, hw2⟩; subst hw2))
    go_wp2
    go_ret
    refine ⟨?_, ?_⟩
    · show Ending.returned (Value.bool (decide (0 ≤ i))) = _
      rw [HE.out, ← HT.out]
    · exact ⟨rfl, rfl, rfl, Nat.le_refl _, fun _ _ => rfl⟩
end Go.Proofs.YtdgoilkgplnhfaaGreat
/-
  The reader's member and item by their contracts: what they read is a function of the bytes that are left. Condition: a text is no longer than a process can hold.
-/
namespace Go.Proofs.YtdgoilkgplnhfaaGreat
open Go.RowKit Go.Lib

/-- A reader of s, ahead of r. -/
def RdS (w : World) (rb : Nat) (s r : By) : Prop := ∃ q, s = q ++ r ∧ RdAt w rb q r
theorem RdS.below {w w' : World} {rb : Nat} {s r : By} (h : RdS w rb s r) (x : Below w.heap.size w w') : RdS w' rb s r := by
  obtain ⟨q, h1, h2⟩ := h
  exact ⟨q, h1, h2.below x⟩
theorem RdS.kept {F : Nat → Prop} {w w' : World} {rb : Nat} {s r : By} (h : RdS w rb s r) (x : Kept F w w') (hF : ¬ F rb) : RdS w' rb s r := by
  obtain ⟨q, h1, h2⟩ := h
  exact ⟨q, h1, h2.kept x hF⟩
theorem RdS.lt {w : World} {rb : Nat} {s r : By} (h : RdS w rb s r) : rb < w.heap.size := by
  obtain ⟨q, h1, h2⟩ := h
  exact lt_of_block h2
theorem RdS.len {w : World} {rb : Nat} {s r : By} (h : RdS w rb s r) : r.length ≤ s.length := by
  obtain ⟨q, h1, h2⟩ := h
  rw [h1, List.length_append]; omega
theorem skip_s (rb : Nat) (s q r : By) (w : World) (hl : s.length ≤ 140737488351232) (hq : q.length ≤ 8) (h : RdS w rb s r) :
    Calls Tryz.prog 91 #[.pointer (some ⟨rb, 0, none⟩), .string ⟨q.toArray⟩] w fun e w' => e = .returned (.bool (q.isPrefixOf r)) ∧ RdS w' rb s (if q.isPrefixOf r = true then r.drop q.length else r) ∧ Kept (fun k => k = rb) w w' := by
  obtain ⟨p, rfl, h2⟩ := h
  refine (skip_any rb p q r w hl hq h2).mono fun e w' ⟨h3, h4, h5, h6⟩ => ⟨h3, ?_, h6⟩
  cases hb : q.isPrefixOf r with
  | true =>
    rw [if_pos rfl]
    refine ⟨p ++ q, ?_, h4 hb⟩
    obtain ⟨t, rfl⟩ := List.isPrefixOf_iff_prefix.1 hb
    simp
  | false => rw [if_neg (by decide)]; exact ⟨p, rfl, h5 hb⟩
/-- What take, member tell. -/
def TkIs (rb : Nat) (s : By) (x : Except By (UInt8 × By)) (e : Ending) (w' : World) : Prop := match x with
  | .ok (c, t) => e = .returned (.tuple #[.int .i64 (c.toNat : Nat), .bool true]) ∧ RdS w' rb s t
  | .error t => e = .returned (.tuple #[.int .i64 0, .bool false]) ∧ RdS w' rb s t
theorem take_s (rb : Nat) (s r : By) (least : Nat) (w : World) (hl : s.length ≤ 140737488351232) (h : RdS w rb s r) :
    Calls Tryz.prog 93 #[.pointer (some ⟨rb, 0, none⟩), .int .i64 (least : Nat)] w fun e w' => TkIs rb s (tkL least r) e w' ∧ Kept (fun k => k = rb) w w' := by
  obtain ⟨p, rfl, h2⟩ := h
  cases r with
  | nil => exact (take_end rb p least w h2).mono fun e w' ⟨h3, h4, h5⟩ => ⟨⟨h3, p, rfl, h4⟩, h5⟩
  | cons c r =>
    refine (take_any rb p r c least w hl h2).mono fun e w' ⟨h3, h4⟩ => ⟨?_, h4⟩
    have e0 : tkL least (c :: r) = if least ≤ c.toNat ∧ c.toNat ≤ 126 then .ok (c, r) else .error (c :: r) := rfl
    rw [e0]
    rcases h3 with ⟨h5, h6, h7, h8⟩ | ⟨h5, h7, h8⟩
    · rw [if_pos ⟨by omega, h6⟩]
      exact ⟨h7, p ++ [c], by simp, h8⟩
    · rw [if_neg (fun h => h5 ⟨by omega, h.2⟩)]
      exact ⟨h7, p, rfl, h8⟩
theorem sees_s (rb : Nat) (s r : By) (w : World) (hl : s.length ≤ 140737488351232) (h : RdS w rb s r) :
    Calls Tryz.prog 164 #[.pointer (some ⟨rb, 0, none⟩), .string ⟨#[93, 45]⟩] w fun e w' => e = .returned (.bool ([93].isPrefixOf r || [45].isPrefixOf r)) ∧ RdS w' rb s r ∧ Kept (fun k => k = rb) w w' := by
  have h0 := h
  obtain ⟨p, rfl, h2⟩ := h
  exact (sees_any rb p r w hl h2).mono fun e w' ⟨h3, h4⟩ => ⟨h3, h0.below h4, Kept.of_below h4⟩

set_option maxRecDepth 100000 in
set_option maxHeartbeats 2000000 in
theorem member_s (rb : Nat) (s r : By) (least : Nat) (w : World) (hl : s.length ≤ 140737488351232) (h : RdS w rb s r) :
    Calls Tryz.prog 144 #[.pointer (some ⟨rb, 0, none⟩), .int .i64 (least : Nat)] w fun e w' => TkIs rb s (mbL least r) e w' ∧ Kept (fun k => k = rb) w w' := by
  have h1 := skip_s rb s [92] r w hl (by decide) h
  have H1 := hide h1
  clear h1 h
  cases hb : [92].isPrefixOf r with
  | true =>
    have HE : Hid (mbL least r = tkL least (r.drop 1)) := by unfold Hid mbL; rw [if_pos hb]
    rw [hb, if_pos rfl] at H1
    clear hb
    go_enter Tryz.func144, Tryz.ntmps144
    go_wp2_with (fail)
    refine H1.out.mono ?_
    rintro e w2 ⟨rfl, r2, k2⟩
    have K2 := hide k2
    have H3 := hide (take_s rb s _ least w2 hl r2)
    clear r2 k2 H1
    go_wp2_with (fail)
    refine H3.out.mono ?_
    rintro e w3 ⟨h3, k3⟩
    have K3 := hide (K2.out.trans k3)
    rw [show List.length [(92 : UInt8)] = 1 from rfl, ← HE.out] at h3
    clear k3 H3
    cases hm : mbL least r with
    | ok x =>
      obtain ⟨c, t⟩ := x
      rw [hm] at h3
      obtain ⟨rfl, r3⟩ := h3
      have R3 := hide r3
      have HM := hide hm
      clear r3 hm HE
      go_wp2
      go_ret2
      refine ⟨?_, K3.out⟩
      unfold TkIs
      rw [HM.out]
      exact ⟨rfl, R3.out⟩
    | error t =>
      rw [hm] at h3
      obtain ⟨rfl, r3⟩ := h3
      have R3 := hide r3
      have HM := hide hm
      clear r3 hm HE
      go_wp2
      go_ret2
      refine ⟨?_, K3.out⟩
      unfold TkIs
      rw [HM.out]
      exact ⟨rfl, R3.out⟩
  | false =>
    rw [hb, if_neg (by decide)] at H1
    cases hc : ([93].isPrefixOf r || [45].isPrefixOf r) with
    | true =>
      have HE : Hid (mbL least r = .error r) := by unfold Hid mbL; rw [if_neg (by rw [hb]; decide), if_pos hc]
      have H2 := hide (fun w' (h : RdS w' rb s r) => sees_s rb s r w' hl h)
      rw [hc] at H2
      clear hb hc
      go_enter Tryz.func144, Tryz.ntmps144
      go_wp2_with (fail)
      refine H1.out.mono ?_
      rintro e w2 ⟨rfl, r2, k2⟩
      have K2 := hide k2
      have H3 := hide (H2.out w2 r2)
      clear r2 k2 H1 H2
      go_wp2_with (fail)
      refine H3.out.mono ?_
      rintro e w3 ⟨rfl, r3, k3⟩
      have K3 := hide (K2.out.trans k3)
      have R3 := hide r3
      clear r3 k3 H3
      go_wp2
      go_ret2
      rw [HE.out]
      exact ⟨⟨rfl, R3.out⟩, K3.out⟩
    | false =>
      have HE : Hid (mbL least r = tkL least r) := by unfold Hid mbL; rw [if_neg (by rw [hb]; decide), if_neg (by rw [hc]; decide)]
      have H2 := hide (fun w' (h : RdS w' rb s r) => sees_s rb s r w' hl h)
      rw [hc] at H2
      clear hb hc
      go_enter Tryz.func144, Tryz.ntmps144
      go_wp2_with (fail)
      refine H1.out.mono ?_
      rintro e w2 ⟨rfl, r2, k2⟩
      have K2 := hide k2
      have H3 := hide (H2.out w2 r2)
      clear r2 k2 H1 H2
      go_wp2_with (fail)
      refine H3.out.mono ?_
      rintro e w3 ⟨rfl, r3, k3⟩
      have K3 := hide (K2.out.trans k3)
      have H4 := hide (take_s rb s r least w3 hl r3)
      clear r3 k3 H3
      go_wp2_with (fail)
      refine H4.out.mono ?_
      rintro e w4 ⟨h4, k4⟩
      have K4 := hide (K3.out.trans k4)
      rw [← HE.out] at h4
      clear k4 H4
      cases hm : mbL least r with
      | ok x =>
        obtain ⟨c, t⟩ := x
        rw [hm] at h4
        obtain ⟨rfl, r3⟩ := h4
        have R3 := hide r3
        have HM := hide hm
        clear r3 hm HE
        go_wp2
        go_ret2
        refine ⟨?_, K4.out⟩
        unfold TkIs
        rw [HM.out]
        exact ⟨rfl, R3.out⟩
      | error t =>
        rw [hm] at h4
        obtain ⟨rfl, r3⟩ := h4
        have R3 := hide r3
        have HM := hide hm
        clear r3 hm HE
        go_wp2
        go_ret2
        refine ⟨?_, K4.out⟩
        unfold TkIs
        rw [HM.out]
        exact ⟨rfl, R3.out⟩
/-- What item tells. -/
def ItIs (rb : Nat) (s : By) (x : Except By (Spn × By)) (e : Ending) (w' : World) : Prop := match x with
  | .ok (p, t) => e = .returned (.tuple #[.agg #[.int .i64 p.1, .int .i64 p.2], .bool true]) ∧ RdS w' rb s t
  | .error t => (∃ a b : Int, e = .returned (.tuple #[.agg #[.int .i64 a, .int .i64 b], .bool false])) ∧ RdS w' rb s t
theorem TkIs.ok {rb : Nat} {s t : By} {x : Except By (UInt8 × By)} {c : UInt8} {e : Ending} {w' : World} (h : TkIs rb s x e w') (hx : x = .ok (c, t)) : e = .returned (.tuple #[.int .i64 (c.toNat : Nat), .bool true]) ∧ RdS w' rb s t := by subst hx; exact h
theorem TkIs.err {rb : Nat} {s t : By} {x : Except By (UInt8 × By)} {e : Ending} {w' : World} (h : TkIs rb s x e w') (hx : x = .error t) : e = .returned (.tuple #[.int .i64 0, .bool false]) ∧ RdS w' rb s t := by subst hx; exact h
set_option maxRecDepth 100000 in
set_option maxHeartbeats 2000000 in
theorem item_s (rb : Nat) (s r : By) (w : World) (hl : s.length ≤ 140737488351232) (h : RdS w rb s r) :
    Calls Tryz.prog 125 #[.pointer (some ⟨rb, 0, none⟩)] w fun e w' => ItIs rb s (itL r) e w' ∧ Kept (fun k => k = rb) w w' := by
  have X0 := hide (al (Below.refl w.heap.size w) (.cells #[.int .i64 0, .int .i64 0] 175))
  have B0 := hide (heap_alloc_new w (.cells #[.int .i64 0, .int .i64 0] 175))
  have H1 := hide (member_s rb s r 32 (w.alloc (.cells #[.int .i64 0, .int .i64 0] 175)) hl (h.below X0.out))
  have HRL : Hid (w.heap.size ≠ rb) := by have := h.lt; unfold Hid; omega
  clear h
  go_enter Tryz.func125, Tryz.ntmps125
  go_wp2_with (fail)
  refine H1.out.mono ?_
  rintro e w2 ⟨h2, k2⟩
  have K2 := hide k2
  have B2 := hide ((k2.block _ (lt_of_block B0.out) HRL.out).trans B0.out)
  clear k2 H1
  have KW := hide ((Kept.of_below X0.out : Kept (fun k => k = rb) _ _).trans K2.out)
  have HKF := hide (fun (W W' : World) (h : Kept (fun k => k = rb) w W) (h' : Kept (fun k => k = w.heap.size) W W') => (Kept.trans_new h h' (fun i hi hg => by rw [hg] at hi; exact absurd hi (Nat.lt_irrefl _)) : Kept (fun k => k = rb) w W'))
  cases hm : mbL 32 r with
  | error t =>
    obtain ⟨rfl, r2⟩ := h2.err hm
    have HE : Hid (itL r = .error t) := by unfold Hid itL; rw [hm]
    clear h2 hm
    obtain ⟨c0, f0, c1, f1, d0, d1, k3⟩ := st2 B2.out (.int .i64 0) (.int .i64 0)
    have R3 := hide (r2.kept k3 (fun h => HRL.out h.symm))
    have K3 := hide (HKF.out _ _ KW.out k3)
    clear r2 k3
    go_wp2
    refine bodyPost_ret (by simp [results, Tryz.results125, go_sem, d0, d1]; try rfl) rfl ?_
    refine ⟨?_, K3.out⟩
    rw [HE.out]
    exact ⟨⟨0, 0, rfl⟩, R3.out⟩
  | ok x =>
    obtain ⟨lo, t⟩ := x
    obtain ⟨rfl, r2⟩ := h2.ok hm
    have H3 := hide (skip_s rb s [45] t w2 hl (by decide) r2)
    clear h2 r2
    cases hb : [45].isPrefixOf t with
    | false =>
      have HE : Hid (itL r = .ok ((((lo.toNat : Nat) : Int), ((lo.toNat : Nat) : Int)), t)) := by unfold Hid itL; rw [hm]; simp only; rw [if_neg (by rw [hb]; decide)]
      rw [hb, if_neg (by decide)] at H3
      clear hm hb
      go_wp2_with (fail)
      refine H3.out.mono ?_
      rintro e w3 ⟨rfl, r3, k3⟩
      have B3 := hide ((k3.block _ (lt_of_block B2.out) HRL.out).trans B2.out)
      have KW3 := hide (KW.out.trans k3)
      obtain ⟨c0, f0, c1, f1, d0, d1, k4⟩ := st2 B3.out (.int .i64 (lo.toNat : Nat)) (.int .i64 (lo.toNat : Nat))
      have R4 := hide (r3.kept k4 (fun h => HRL.out h.symm))
      have K4 := hide (HKF.out _ _ KW3.out k4)
      clear r3 k3 k4 H3
      go_wp2
      refine bodyPost_ret (by simp [results, Tryz.results125, go_sem, d0, d1]; try rfl) rfl ?_
      refine ⟨?_, K4.out⟩
      rw [HE.out]
      exact ⟨rfl, R4.out⟩
    | true =>
      rw [hb, if_pos rfl] at H3
      cases hn : mbL lo.toNat (t.drop 1) with
      | error u =>
        have HE : Hid (itL r = .error u) := by unfold Hid itL; rw [hm]; simp only; rw [if_pos hb, hn]
        have HN := hide hn
        clear hm hb hn
        go_wp2_with (fail)
        refine H3.out.mono ?_
        rintro e w3 ⟨rfl, r3, k3⟩
        have B3 := hide ((k3.block _ (lt_of_block B2.out) HRL.out).trans B2.out)
        have KW3 := hide (KW.out.trans k3)
        have H4 := hide (member_s rb s _ lo.toNat w3 hl r3)
        clear r3 k3 H3
        go_wp2_with (fail)
        refine H4.out.mono ?_
        rintro e w4 ⟨h4, k4⟩
        obtain ⟨rfl, r4⟩ := h4.err HN.out
        have B4 := hide ((k4.block _ (lt_of_block B3.out) HRL.out).trans B3.out)
        have KW4 := hide (KW3.out.trans k4)
        obtain ⟨c0, f0, c1, f1, d0, d1, k5⟩ := st2 B4.out (.int .i64 (lo.toNat : Nat)) (.int .i64 0)
        have R5 := hide (r4.kept k5 (fun h => HRL.out h.symm))
        have K5 := hide (HKF.out _ _ KW4.out k5)
        clear r4 k4 k5 h4 H4
        go_wp2
        refine bodyPost_ret (by simp [results, Tryz.results125, go_sem, d0, d1]; try rfl) rfl ?_
        refine ⟨?_, K5.out⟩
        rw [HE.out]
        exact ⟨⟨_, 0, rfl⟩, R5.out⟩
      | ok x =>
        obtain ⟨hi, u⟩ := x
        have HE : Hid (itL r = .ok ((((lo.toNat : Nat) : Int), ((hi.toNat : Nat) : Int)), u)) := by unfold Hid itL; rw [hm]; simp only; rw [if_pos hb, hn]
        have HN := hide hn
        clear hm hb hn
        go_wp2_with (fail)
        refine H3.out.mono ?_
        rintro e w3 ⟨rfl, r3, k3⟩
        have B3 := hide ((k3.block _ (lt_of_block B2.out) HRL.out).trans B2.out)
        have KW3 := hide (KW.out.trans k3)
        have H4 := hide (member_s rb s _ lo.toNat w3 hl r3)
        clear r3 k3 H3
        go_wp2_with (fail)
        refine H4.out.mono ?_
        rintro e w4 ⟨h4, k4⟩
        obtain ⟨rfl, r4⟩ := h4.ok HN.out
        have B4 := hide ((k4.block _ (lt_of_block B3.out) HRL.out).trans B3.out)
        have KW4 := hide (KW3.out.trans k4)
        obtain ⟨c0, f0, c1, f1, d0, d1, k5⟩ := st2 B4.out (.int .i64 (lo.toNat : Nat)) (.int .i64 (hi.toNat : Nat))
        have R5 := hide (r4.kept k5 (fun h => HRL.out h.symm))
        have K5 := hide (HKF.out _ _ KW4.out k5)
        clear r4 k4 k5 h4 H4
        go_wp2
        refine bodyPost_ret (by simp [results, Tryz.results125, go_sem, d0, d1]; try rfl) rfl ?_
        refine ⟨?_, K5.out⟩
        rw [HE.out]
        exact ⟨rfl, R5.out⟩
end Go.Proofs.YtdgoilkgplnhfaaGreat
/-
  slices.Clone and Make by their contracts: the set of all numbers of the spans, or the error. Condition: a list has at most 2^32 spans.
-/
namespace Go.Proofs.YtdgoilkgplnhfaaGreat
open Go.RowKit Go.Lib

theorem Tryz.info175' : ∃ i, Tryz.prog.info? 175 = some i ∧ i.zero = some (.agg #[.int .i64 0, .int .i64 0]) ∧ i.size = 2 ∧ i.bytes = 16 := by
  have := Tryz.info175
  cases h : Tryz.prog.info? 175 with
  | none => rw [h] at this; simp at this
  | some i =>
    rw [h] at this
    have := Option.some.inj this
    simp only [Prod.mk.injEq] at this
    exact ⟨i, rfl, this⟩
theorem addr_add (b off n : Nat) : (⟨b, off, none⟩ : Addr).add n = ⟨b, off + n, none⟩ := by unfold Addr.add; split <;> simp_all
theorem SpAt.cells {w : World} {a : Addr} {L : List Spn} (h : SpAt w (some a) L) : ∀ j u, (spCells L)[j]? = some u → w.cell? (a.add j) = some u := by
  intro j u hu
  have hj : j < L.length * 2 := by
    rw [← spCells_length]
    rcases Nat.lt_or_ge j (spCells L).length with h | h
    · exact h
    · rw [List.getElem?_eq_none h] at hu; cases hu
  obtain ⟨b, off, e, _, hc⟩ := h.get (i := j / 2) (by omega)
  cases e
  obtain ⟨a1, a2⟩ := spCells_get L (j / 2) (by omega)
  obtain ⟨c1, c2⟩ := hc (j / 2) (by omega)
  rw [addr_add]
  rcases Nat.mod_two_eq_zero_or_one j with hm | hm
  · rw [show j / 2 * 2 = j by omega] at a1 c1
    rw [hu] at a1
    rw [c1, a1]
  · rw [show j / 2 * 2 + 1 = j by omega] at a2
    rw [show off + j / 2 * 2 + 1 = off + j by omega] at c2
    rw [hu] at a2
    rw [c2, a2]

set_option maxRecDepth 100000 in
set_option maxHeartbeats 1000000 in
theorem clone_any (ao : Option Addr) (cap : Nat) (L : List Spn) (w : World) (hl : L.length ≤ 4294967296) (hat : SpAt w ao L) :
    Calls Tryz.prog 146 #[.slice ao L.length cap] w fun e w' => ∃ v', e = .returned v' ∧ OwnS w' w.heap.size v' L ∧ Below w.heap.size w w' := by
  obtain ⟨i0, hi, hz0, hz1, hz2⟩ := Tryz.info175'
  have hnil := fun (a : Option Addr) (n c : Nat) (W : World) => run_eql_slice_nil (P := Tryz.prog) W 94 175 a n c 0 0 Tryz.underlying94
  cases ao with
  | none =>
    have hL : L = [] := by
      rcases hat with h | ⟨b, off, e, _⟩
      · exact h
      · cases e
    subst hL
    simp only [List.length_nil]
    go_enter Tryz.func146, Tryz.ntmps146
    go_wp2
    go_ret
    exact ⟨_, rfl, OwnS.nil _ _, Below.refl _ _⟩
  | some a =>
    have hb1 : Below w.heap.size w (w.alloc (.cells #[] 175)) := (Below.refl _ _).alloc (Nat.le_refl _) _
    have HN := hide (hat.below hb1).cells
    have HO : Hid ((w.alloc (.cells #[] 175)).ownsRow w.heap.size 175 2 (.slice (some ⟨w.heap.size, 0, none⟩) 0 0) 0 []) := ⟨rfl, .inr ⟨w.heap.size, 0, #[], rfl, Nat.le_refl _, by show (w.heap.push _)[_]? = _; simp, Nat.le_refl _, by decide, rfl, rfl⟩⟩
    have HB := hide hb1
    have HL := hide (spCells_length L)
    clear hat hb1
    go_enter Tryz.func146, Tryz.ntmps146
    go_wp2_with (at_builtin; refine wpList_append_own_at _ rfl (.tmp 5) (.tmp 6) 94 rfl w.heap.size 175 i0 (.agg #[.int .i64 0, .int .i64 0]) 2 16 Tryz.underlying94 hi hz0 hz1 hz2 rfl (by decide) _ 0 [] rfl HO.out a L.length cap (spCells L) rfl HL.out HN.out (spCells_one L) (by unfold maxLen; omega) (by omega) HB.out.size ?_; intro v8 w8 h1 h2 _ h3; have H1 := hide h1; have H2 := hide h2; clear h1 h2 h3)
    go_ret
    refine ⟨_, rfl, ?_, HB.out.grown H2.out HB.out.size (fun k hk => by cases hk; exact Nat.le_refl _)⟩
    have := H1.out
    rw [Nat.zero_add, List.nil_append] at this
    exact this

theorem take_last {A : List Spn} (h : IsSet A) : ∀ B z, A = B ++ [z] → 0 ≤ z.2 ∧ z.2 ≤ 4294967295 := by
  rintro B z rfl
  have := h.1 z (by simp)
  unfold Bnd at this
  omega
theorem take_getD (M : List Spn) (k : Nat) (hk : k < M.length) : M.take (k + 1) = M.take k ++ [M.getD k (0, 0)] := by
  rw [List.take_succ_eq_append_getElem hk]
  simp [List.getD_eq_getElem?_getD, hk]

set_option maxRecDepth 100000 in
set_option maxHeartbeats 2000000 in
theorem make_any (ao : Option Addr) (cap : Nat) (L : List Spn) (w : World) (hl : L.length ≤ 4294967296) (hat : SpAt w ao L) :
    Calls Tryz.prog 126 #[.slice ao L.length cap] w fun e w' => Below w.heap.size w w' ∧
      (((∀ s ∈ L, Bnd s) ∧ ∃ v' M, e = .returned (.tuple #[v', .int .i64 0]) ∧ OwnS w' w.heap.size v' M ∧ IsSet M ∧ (∀ n, memB n M = memB n L) ∧ M.length ≤ L.length) ∨
       ((¬ ∀ s ∈ L, Bnd s) ∧ e = .returned (.tuple #[.slice none 0 0, .int .i64 20]))) := by
  go_enter Tryz.func126, Tryz.ntmps126
  go_wp2
  go_loopw [12] (fun i wr => ∃ k : Nat, k ≤ L.length ∧ i = .int .i64 k ∧ Hid (∀ j, j < k → Bnd (L.getD j (0, 0))) ∧ Below w.heap.size w wr) (fun i _ => L.length - (intOf i).toNat)
  case atStart => exact ⟨0, Nat.zero_le _, rfl, fun j hj => absurd hj (by omega), Below.refl _ _⟩
  case round =>
    obtain ⟨k, hk, rfl, hok, hq⟩ := hrel
    have HQ := hide hq
    clear hq
    by_cases hlt : k < L.length
    · obtain ⟨b, off, rfl, hb, hc⟩ := hat.get hlt
      obtain ⟨c1, c2⟩ := (hc k hlt).below HQ.out hb
      obtain ⟨s, hs⟩ : ∃ s, s = L.getD k (0, 0) := ⟨_, rfl⟩
      rw [← hs] at c1 c2
      have HS := hide hs
      have hcon := bounded_any s.1 s.2 (wr.alloc (.cells #[.int .i64 s.1, .int .i64 s.2] 175))
      have hb1 : Below w.heap.size w (wr.alloc (.cells #[.int .i64 s.1, .int .i64 s.2] 175)) := HQ.out.trans (((Below.refl _ _).alloc (Nat.le_refl _) _).mono HQ.out.size)
      have HB1 := hide hb1
      clear hs hc hat hb1
      by_cases hbd : Bnd s
      · rw [decide_eq_true hbd] at hcon
        go_wp2_with (go_at_call 145; refine hcon.mono ?_; rintro e w2 ⟨rfl, x2⟩; have X2 := hide x2; clear x2)
        go_roundw
        case rel =>
          refine ⟨k + 1, by omega, by go_num, fun j hj => ?_, HB1.out.trans (X2.out.mono HB1.out.size)⟩
          rcases Nat.lt_or_ge j k with h | h
          · exact hok.out j h
          · rw [show j = k by omega, ← HS.out]; exact hbd
        case measure => simp [intOf]; omega
      · rw [decide_eq_false hbd] at hcon
        go_wp2_with (go_at_call 145; refine hcon.mono ?_; rintro e w2 ⟨rfl, x2⟩; have X2 := hide x2; clear x2)
        go_ret2
        refine ⟨HB1.out.trans (X2.out.mono HB1.out.size), .inr ⟨fun h => hbd ?_, rfl⟩⟩
        rw [HS.out]
        have := h L[k] (List.getElem_mem hlt)
        simpa [List.getD_eq_getElem?_getD, hlt] using this
    · have h8 : k = L.length := by omega
      subst h8
      have hall : ∀ s ∈ L, Bnd s := fun s hs => by
        obtain ⟨i, hi, rfl⟩ := List.getElem_of_mem hs
        simpa [List.getD_eq_getElem?_getD, hi] using hok.out i hi
      have hcl := clone_any ao cap L wr hl (hat.below (HQ.out.mono (Nat.le_refl _)))
      have HALL := hide hall
      clear hall hat
      have hso : ∀ (v1 : Value) (w1 : World), OwnS w1 wr.heap.size v1 L → Below wr.heap.size wr w1 → Calls Tryz.prog 147 #[v1, .func (.func 148) #[] #[]] w1 fun e w' => e = .returned (.tuple #[]) ∧ ∃ (a1 : Option Addr) (c1 : Nat) (M : List Spn), v1 = .slice a1 L.length c1 ∧ M.Perm L ∧ M.Pairwise (fun s t => s.1 ≤ t.1) ∧ SpAt w' a1 M ∧ Below wr.heap.size wr w' := by
        intro v1 w1 ho hb
        have hh : w1.ownsRow wr.heap.size 175 2 v1 L.length (spCells L) := ho
        rcases hh.2 with ⟨rfl, hn⟩ | ⟨g, cap', cur, rfl, hbg, hg, _⟩
        · have hL := List.length_eq_zero_iff.1 hn
          subst hL
          have := AnyF.slices_SortFunc_none Tryz.sortSp none 0 (.func (.func 148) #[] #[]) w1
          change Calls Tryz.prog 147 _ _ _ at this
          refine this.mono ?_
          rintro e w' ⟨rfl, rfl⟩
          exact ⟨rfl, none, 0, [], rfl, List.Perm.refl _, List.Pairwise.nil, .inl rfl, hb⟩
        · refine (sort_any w1 wr.heap.size g cap' L ho (by omega)).mono ?_
          rintro e w' ⟨rfl, M, m1, m2, m3, m4⟩
          exact ⟨rfl, _, cap', M, rfl, m1, m2, m3, hb.trans (m4.below hb.size (fun i hi => by subst hi; exact hbg))⟩
      go_wp2_with (first | (go_at_call 146; refine hcl.mono ?_; rintro e w1 ⟨v1, rfl, o1, x1⟩; have O1 := hide o1; have X1 := hide x1; clear o1 x1) | (go_at_call 147; refine (hso _ _ O1.out X1.out).mono ?_; rintro e w2 ⟨rfl, a1, c1, M, hv1, m1, m2, m3, x2⟩; subst hv1; have M1 := hide m1; have M2 := hide m2; have M3 := hide m3; have X2 := hide x2; clear m1 m2 m3 x2))
      have hml : M.length = L.length := M1.out.length_eq
      have HBW : Hid (Below w.heap.size w w2) := HQ.out.trans (X2.out.mono HQ.out.size)
      have HMB : Hid (∀ s ∈ M, Bnd s) := fun s hs => HALL.out s (M1.out.mem_iff.1 hs)
      clear hcl hso
      go_loopw [7, 26] (fun o i wk => ∃ k : Nat, k ≤ L.length ∧ i = .int .i64 k ∧ Hid (OwnS wk w2.heap.size o (joinAll (M.take k))) ∧ Below w2.heap.size w2 wk) (fun _ i _ => L.length - (intOf i).toNat)
      case atStart => exact ⟨0, Nat.zero_le _, rfl, OwnS.nil _ _, Below.refl _ _⟩
      case round =>
        obtain ⟨k, hk, rfl, ho, hq⟩ := hrel
        have HQ2 := hide hq
        clear hq
        by_cases hlt : k < L.length
        · obtain ⟨b, off, rfl, hb, hc⟩ := M3.out.get (i := k) (by omega)
          obtain ⟨q1, q2⟩ := (hc k (by omega)).below HQ2.out hb
          obtain ⟨s, hs⟩ : ∃ s, s = M.getD k (0, 0) := ⟨_, rfl⟩
          rw [← hs] at q1 q2
          have hst := take_getD M k (by omega)
          rw [← hs] at hst
          have HST := hide hst
          have hA := (joinAll_spec _ (M.take k) rfl (fun s hs => HMB.out s (List.mem_of_mem_take hs)) (M2.out.sublist (List.take_sublist k M))).1
          have hb1 : Below w2.heap.size w2 (wr.alloc (.cells #[.int .i64 s.1, .int .i64 s.2] 175)) := HQ2.out.trans (((Below.refl _ _).alloc (Nat.le_refl _) _).mono HQ2.out.size)
          have HB1 := hide hb1
          have hjl := joinAll_length (M.take k)
          rw [List.length_take] at hjl
          have hcon := joined_any (wr.alloc (.cells #[.int .i64 s.1, .int .i64 s.2] 175)) w2.heap.size u7 (joinAll (M.take k)) s (ho.out.below ((Below.refl _ _).alloc (Nat.le_refl _) _)) hb1.size (by omega) (take_last hA)
          have HLT := hide (ho.out.lt)
          clear hs hc hst hA hb1 hjl ho
          go_wp2_with (go_at_call 149; refine hcon.mono ?_; rintro e w3 ⟨v3, rfl, o3, k3, _⟩; have O3 := hide o3; have K3 := hide k3; clear o3 k3)
          go_roundw
          case rel => exact ⟨k + 1, by omega, by go_num, by rw [HST.out, joinAll_snoc]; exact O3.out, HB1.out.trans (K3.out.below HB1.out.size (fun i hi => (HLT.out i hi).1))⟩
          case measure => simp [intOf]; omega
        · have h8 : k = L.length := by omega
          subst h8
          have e1 : M.take L.length = M := by rw [← hml, List.take_length]
          rw [e1] at ho
          go_wp2
          go_ret2
          obtain ⟨j1, j2, _⟩ := joinAll_spec _ M rfl HMB.out M2.out
          refine ⟨HBW.out.trans (HQ2.out.mono HBW.out.size), .inl ⟨HALL.out, u7, joinAll M, rfl, ho.out.mono HBW.out.size, j1, fun n => ?_, by have := joinAll_length M; omega⟩⟩
          rw [j2, Bool.eq_iff_iff, memB_iff, memB_iff]
          exact ⟨fun ⟨s, h1, h2⟩ => ⟨s, M1.out.mem_iff.1 h1, h2⟩, fun ⟨s, h1, h2⟩ => ⟨s, M1.out.mem_iff.2 h1, h2⟩⟩
end Go.Proofs.YtdgoilkgplnhfaaGreat
