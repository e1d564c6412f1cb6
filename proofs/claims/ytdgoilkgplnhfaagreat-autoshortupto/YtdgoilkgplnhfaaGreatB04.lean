/-
  The reader's member and item by their contracts: what they read is a function of the bytes that are left. Condition: a text is no longer than a process can hold.
-/
import Derived.Test.YtdgoilkgplnhfaaGreatB03
namespace Go.Proofs.YtdgoilkgplnhfaaGreat
open Go.RowKit Go.Lib

/-- A reader of s, ahead of r. -/
def RdS (w : World) (rb : Nat) (s r : By) : Prop := ∃ q, s = q ++ r ∧ RdAt w rb q r
theorem RdS.below {w w' : World} {rb : Nat} {s r : By} (h : RdS w rb s r) (x : Below w.heap.size w w') : RdS w' rb s r := by
  obtain ⟨q, h1, h2⟩ := h
  exact ⟨q, h1, h2.below x⟩
theorem RdS.kept {F : Nat → Prop} {w w' : World} {rb : Nat} {s r : By} (h : RdS w rb s r) (x : Kept F w w') (hF : ¬ F rb) : RdS w' rb s r := by
  obtain ⟨q, h1, h2⟩ := h
  exact ⟨q, h1, h2.kept x hF⟩
theorem RdS.lt {w : World} {rb : Nat} {s r : By} (h : RdS w rb s r) : rb < w.heap.size := by
  obtain ⟨q, h1, h2⟩ := h
  exact lt_of_block h2
theorem RdS.len {w : World} {rb : Nat} {s r : By} (h : RdS w rb s r) : r.length ≤ s.length := by
  obtain ⟨q, h1, h2⟩ := h
  rw [h1, List.length_append]; omega
theorem skip_s (rb : Nat) (s q r : By) (w : World) (hl : s.length ≤ 140737488351232) (hq : q.length ≤ 8) (h : RdS w rb s r) :
    Calls Tryz.prog 91 #[.pointer (some ⟨rb, 0, none⟩), .string ⟨q.toArray⟩] w fun e w' => e = .returned (.bool (q.isPrefixOf r)) ∧ RdS w' rb s (if q.isPrefixOf r = true then r.drop q.length else r) ∧ Kept (fun k => k = rb) w w' := by
  obtain ⟨p, rfl, h2⟩ := h
  refine (skip_any rb p q r w hl hq h2).mono fun e w' ⟨h3, h4, h5, h6⟩ => ⟨h3, ?_, h6⟩
  cases hb : q.isPrefixOf r with
  | true =>
    rw [if_pos rfl]
    refine ⟨p ++ q, ?_, h4 hb⟩
    obtain ⟨t, rfl⟩ := List.isPrefixOf_iff_prefix.1 hb
    simp
  | false => rw [if_neg (by decide)]; exact ⟨p, rfl, h5 hb⟩
/-- What take, member tell. -/
def TkIs (rb : Nat) (s : By) (x : Except By (UInt8 × By)) (e : Ending) (w' : World) : Prop := match x with
  | .ok (c, t) => e = .returned (.tuple #[.int .i64 (c.toNat : Nat), .bool true]) ∧ RdS w' rb s t
  | .error t => e = .returned (.tuple #[.int .i64 0, .bool false]) ∧ RdS w' rb s t
theorem take_s (rb : Nat) (s r : By) (least : Nat) (w : World) (hl : s.length ≤ 140737488351232) (h : RdS w rb s r) :
    Calls Tryz.prog 93 #[.pointer (some ⟨rb, 0, none⟩), .int .i64 (least : Nat)] w fun e w' => TkIs rb s (tkL least r) e w' ∧ Kept (fun k => k = rb) w w' := by
  obtain ⟨p, rfl, h2⟩ := h
  cases r with
  | nil => exact (take_end rb p least w h2).mono fun e w' ⟨h3, h4, h5⟩ => ⟨⟨h3, p, rfl, h4⟩, h5⟩
  | cons c r =>
    refine (take_any rb p r c least w hl h2).mono fun e w' ⟨h3, h4⟩ => ⟨?_, h4⟩
    have e0 : tkL least (c :: r) = if least ≤ c.toNat ∧ c.toNat ≤ 126 then .ok (c, r) else .error (c :: r) := rfl
    rw [e0]
    rcases h3 with ⟨h5, h6, h7, h8⟩ | ⟨h5, h7, h8⟩
    · rw [if_pos ⟨by omega, h6⟩]
      exact ⟨h7, p ++ [c], by simp, h8⟩
    · rw [if_neg (fun h => h5 ⟨by omega, h.2⟩)]
      exact ⟨h7, p, rfl, h8⟩
theorem sees_s (rb : Nat) (s r : By) (w : World) (hl : s.length ≤ 140737488351232) (h : RdS w rb s r) :
    Calls Tryz.prog 164 #[.pointer (some ⟨rb, 0, none⟩), .string ⟨#[93, 45]⟩] w fun e w' => e = .returned (.bool ([93].isPrefixOf r || [45].isPrefixOf r)) ∧ RdS w' rb s r ∧ Kept (fun k => k = rb) w w' := by
  have h0 := h
  obtain ⟨p, rfl, h2⟩ := h
  exact (sees_any rb p r w hl h2).mono fun e w' ⟨h3, h4⟩ => ⟨h3, h0.below h4, Kept.of_below h4⟩

set_option maxRecDepth 100000 in
set_option maxHeartbeats 2000000 in
theorem member_s (rb : Nat) (s r : By) (least : Nat) (w : World) (hl : s.length ≤ 140737488351232) (h : RdS w rb s r) :
    Calls Tryz.prog 144 #[.pointer (some ⟨rb, 0, none⟩), .int .i64 (least : Nat)] w fun e w' => TkIs rb s (mbL least r) e w' ∧ Kept (fun k => k = rb) w w' := by
  have h1 := skip_s rb s [92] r w hl (by decide) h
  have H1 := hide h1
  clear h1 h
  cases hb : [92].isPrefixOf r with
  | true =>
    have HE : Hid (mbL least r = tkL least (r.drop 1)) := by unfold Hid mbL; rw [if_pos hb]
    rw [hb, if_pos rfl] at H1
    clear hb
    go_enter Tryz.func144, Tryz.ntmps144
    go_wp2_with (fail)
    refine H1.out.mono ?_
    rintro e w2 ⟨rfl, r2, k2⟩
    have K2 := hide k2
    have H3 := hide (take_s rb s _ least w2 hl r2)
    clear r2 k2 H1
    go_wp2_with (fail)
    refine H3.out.mono ?_
    rintro e w3 ⟨h3, k3⟩
    have K3 := hide (K2.out.trans k3)
    rw [show List.length [(92 : UInt8)] = 1 from rfl, ← HE.out] at h3
    clear k3 H3
    cases hm : mbL least r with
    | ok x =>
      obtain ⟨c, t⟩ := x
      rw [hm] at h3
      obtain ⟨rfl, r3⟩ := h3
      have R3 := hide r3
      have HM := hide hm
      clear r3 hm HE
      go_wp2
      go_ret2
      refine ⟨?_, K3.out⟩
      unfold TkIs
      rw [HM.out]
      exact ⟨rfl, R3.out⟩
    | error t =>
      rw [hm] at h3
      obtain ⟨rfl, r3⟩ := h3
      have R3 := hide r3
      have HM := hide hm
      clear r3 hm HE
      go_wp2
      go_ret2
      refine ⟨?_, K3.out⟩
      unfold TkIs
      rw [HM.out]
      exact ⟨rfl, R3.out⟩
  | false =>
    rw [hb, if_neg (by decide)] at H1
    cases hc : ([93].isPrefixOf r || [45].isPrefixOf r) with
    | true =>
      have HE : Hid (mbL least r = .error r) := by unfold Hid mbL; rw [if_neg (by rw [hb]; decide), if_pos hc]
      have H2 := hide (fun w' (h : RdS w' rb s r) => sees_s rb s r w' hl h)
      rw [hc] at H2
      clear hb hc
      go_enter Tryz.func144, Tryz.ntmps144
      go_wp2_with (fail)
      refine H1.out.mono ?_
      rintro e w2 ⟨rfl, r2, k2⟩
      have K2 := hide k2
      have H3 := hide (H2.out w2 r2)
      clear r2 k2 H1 H2
      go_wp2_with (fail)
      refine H3.out.mono ?_
      rintro e w3 ⟨rfl, r3, k3⟩
      have K3 := hide (K2.out.trans k3)
      have R3 := hide r3
      clear r3 k3 H3
      go_wp2
      go_ret2
      rw [HE.out]
      exact ⟨⟨rfl, R3.out⟩, K3.out⟩
    | false =>
      have HE : Hid (mbL least r = tkL least r) := by unfold Hid mbL; rw [if_neg (by rw [hb]; decide), if_neg (by rw [hc]; decide)]
      have H2 := hide (fun w' (h : RdS w' rb s r) => sees_s rb s r w' hl h)
      rw [hc] at H2
      clear hb hc
      go_enter Tryz.func144, Tryz.ntmps144
      go_wp2_with (fail)
      refine H1.out.mono ?_
      rintro e w2 ⟨rfl, r2, k2⟩
      have K2 := hide k2
      have H3 := hide (H2.out w2 r2)
      clear r2 k2 H1 H2
      go_wp2_with (fail)
      refine H3.out.mono ?_
      rintro e w3 ⟨rfl, r3, k3⟩
      have K3 := hide (K2.out.trans k3)
      have H4 := hide (take_s rb s r least w3 hl r3)
      clear r3 k3 H3
      go_wp2_with (fail)
      refine H4.out.mono ?_
      rintro e w4 ⟨h4, k4⟩
      have K4 := hide (K3.out.trans k4)
      rw [← HE.out] at h4
      clear k4 H4
      cases hm : mbL least r with
      | ok x =>
        obtain ⟨c, t⟩ := x
        rw [hm] at h4
        obtain ⟨rfl, r3⟩ := h4
        have R3 := hide r3
        have HM := hide hm
        clear r3 hm HE
        go_wp2
        go_ret2
        refine ⟨?_, K4.out⟩
        unfold TkIs
        rw [HM.out]
        exact ⟨rfl, R3.out⟩
      | error t =>
        rw [hm] at h4
        obtain ⟨rfl, r3⟩ := h4
        have R3 := hide r3
        have HM := hide hm
        clear r3 hm HE
        go_wp2
        go_ret2
        refine ⟨?_, K4.out⟩
        unfold TkIs
        rw [HM.out]
        exact ⟨rfl, R3.out⟩
/-- What item tells. -/
def ItIs (rb : Nat) (s : By) (x : Except By (Spn × By)) (e : Ending) (w' : World) : Prop := match x with
  | .ok (p, t) => e = .returned (.tuple #[.agg #[.int .i64 p.1, .int .i64 p.2], .bool true]) ∧ RdS w' rb s t
  | .error t => (∃ a b : Int, e = .returned (.tuple #[.agg #[.int .i64 a, .int .i64 b], .bool false])) ∧ RdS w' rb s t
theorem TkIs.ok {rb : Nat} {s t : By} {x : Except By (UInt8 × By)} {c : UInt8} {e : Ending} {w' : World} (h : TkIs rb s x e w') (hx : x = .ok (c, t)) : e = .returned (.tuple #[.int .i64 (c.toNat : Nat), .bool true]) ∧ RdS w' rb s t := by subst hx; exact h
theorem TkIs.err {rb : Nat} {s t : By} {x : Except By (UInt8 × By)} {e : Ending} {w' : World} (h : TkIs rb s x e w') (hx : x = .error t) : e = .returned (.tuple #[.int .i64 0, .bool false]) ∧ RdS w' rb s t := by subst hx; exact h
set_option maxRecDepth 100000 in
set_option maxHeartbeats 2000000 in
theorem item_s (rb : Nat) (s r : By) (w : World) (hl : s.length ≤ 140737488351232) (h : RdS w rb s r) :
    Calls Tryz.prog 125 #[.pointer (some ⟨rb, 0, none⟩)] w fun e w' => ItIs rb s (itL r) e w' ∧ Kept (fun k => k = rb) w w' := by
  have X0 := hide (al (Below.refl w.heap.size w) (.cells #[.int .i64 0, .int .i64 0] 175))
  have B0 := hide (heap_alloc_new w (.cells #[.int .i64 0, .int .i64 0] 175))
  have H1 := hide (member_s rb s r 32 (w.alloc (.cells #[.int .i64 0, .int .i64 0] 175)) hl (h.below X0.out))
  have HRL : Hid (w.heap.size ≠ rb) := by have := h.lt; unfold Hid; omega
  clear h
  go_enter Tryz.func125, Tryz.ntmps125
  go_wp2_with (fail)
  refine H1.out.mono ?_
  rintro e w2 ⟨h2, k2⟩
  have K2 := hide k2
  have B2 := hide ((k2.block _ (lt_of_block B0.out) HRL.out).trans B0.out)
  clear k2 H1
  have KW := hide ((Kept.of_below X0.out : Kept (fun k => k = rb) _ _).trans K2.out)
  have HKF := hide (fun (W W' : World) (h : Kept (fun k => k = rb) w W) (h' : Kept (fun k => k = w.heap.size) W W') => (Kept.trans_new h h' (fun i hi hg => by rw [hg] at hi; exact absurd hi (Nat.lt_irrefl _)) : Kept (fun k => k = rb) w W'))
  cases hm : mbL 32 r with
  | error t =>
    obtain ⟨rfl, r2⟩ := h2.err hm
    have HE : Hid (itL r = .error t) := by unfold Hid itL; rw [hm]
    clear h2 hm
    obtain ⟨c0, f0, c1, f1, d0, d1, k3⟩ := st2 B2.out (.int .i64 0) (.int .i64 0)
    have R3 := hide (r2.kept k3 (fun h => HRL.out h.symm))
    have K3 := hide (HKF.out _ _ KW.out k3)
    clear r2 k3
    go_wp2
    refine bodyPost_ret (by simp [results, Tryz.results125, go_sem, d0, d1]; try rfl) rfl ?_
    refine ⟨?_, K3.out⟩
    rw [HE.out]
    exact ⟨⟨0, 0, rfl⟩, R3.out⟩
  | ok x =>
    obtain ⟨lo, t⟩ := x
    obtain ⟨rfl, r2⟩ := h2.ok hm
    have H3 := hide (skip_s rb s [45] t w2 hl (by decide) r2)
    clear h2 r2
    cases hb : [45].isPrefixOf t with
    | false =>
      have HE : Hid (itL r = .ok ((((lo.toNat : Nat) : Int), ((lo.toNat : Nat) : Int)), t)) := by unfold Hid itL; rw [hm]; simp only; rw [if_neg (by rw [hb]; decide)]
      rw [hb, if_neg (by decide)] at H3
      clear hm hb
      go_wp2_with (fail)
      refine H3.out.mono ?_
      rintro e w3 ⟨rfl, r3, k3⟩
      have B3 := hide ((k3.block _ (lt_of_block B2.out) HRL.out).trans B2.out)
      have KW3 := hide (KW.out.trans k3)
      obtain ⟨c0, f0, c1, f1, d0, d1, k4⟩ := st2 B3.out (.int .i64 (lo.toNat : Nat)) (.int .i64 (lo.toNat : Nat))
      have R4 := hide (r3.kept k4 (fun h => HRL.out h.symm))
      have K4 := hide (HKF.out _ _ KW3.out k4)
      clear r3 k3 k4 H3
      go_wp2
      refine bodyPost_ret (by simp [results, Tryz.results125, go_sem, d0, d1]; try rfl) rfl ?_
      refine ⟨?_, K4.out⟩
      rw [HE.out]
      exact ⟨rfl, R4.out⟩
    | true =>
      rw [hb, if_pos rfl] at H3
      cases hn : mbL lo.toNat (t.drop 1) with
      | error u =>
        have HE : Hid (itL r = .error u) := by unfold Hid itL; rw [hm]; simp only; rw [if_pos hb, hn]
        have HN := hide hn
        clear hm hb hn
        go_wp2_with (fail)
        refine H3.out.mono ?_
        rintro e w3 ⟨rfl, r3, k3⟩
        have B3 := hide ((k3.block _ (lt_of_block B2.out) HRL.out).trans B2.out)
        have KW3 := hide (KW.out.trans k3)
        have H4 := hide (member_s rb s _ lo.toNat w3 hl r3)
        clear r3 k3 H3
        go_wp2_with (fail)
        refine H4.out.mono ?_
        rintro e w4 ⟨h4, k4⟩
        obtain ⟨rfl, r4⟩ := h4.err HN.out
        have B4 := hide ((k4.block _ (lt_of_block B3.out) HRL.out).trans B3.out)
        have KW4 := hide (KW3.out.trans k4)
        obtain ⟨c0, f0, c1, f1, d0, d1, k5⟩ := st2 B4.out (.int .i64 (lo.toNat : Nat)) (.int .i64 0)
        have R5 := hide (r4.kept k5 (fun h => HRL.out h.symm))
        have K5 := hide (HKF.out _ _ KW4.out k5)
        clear r4 k4 k5 h4 H4
        go_wp2
        refine bodyPost_ret (by simp [results, Tryz.results125, go_sem, d0, d1]; try rfl) rfl ?_
        refine ⟨?_, K5.out⟩
        rw [HE.out]
        exact ⟨⟨_, 0, rfl⟩, R5.out⟩
      | ok x =>
        obtain ⟨hi, u⟩ := x
        have HE : Hid (itL r = .ok ((((lo.toNat : Nat) : Int), ((hi.toNat : Nat) : Int)), u)) := by unfold Hid itL; rw [hm]; simp only; rw [if_pos hb, hn]
        have HN := hide hn
        clear hm hb hn
        go_wp2_with (fail)
        refine H3.out.mono ?_
        rintro e w3 ⟨rfl, r3, k3⟩
        have B3 := hide ((k3.block _ (lt_of_block B2.out) HRL.out).trans B2.out)
        have KW3 := hide (KW.out.trans k3)
        have H4 := hide (member_s rb s _ lo.toNat w3 hl r3)
        clear r3 k3 H3
        go_wp2_with (fail)
        refine H4.out.mono ?_
        rintro e w4 ⟨h4, k4⟩
        obtain ⟨rfl, r4⟩ := h4.ok HN.out
        have B4 := hide ((k4.block _ (lt_of_block B3.out) HRL.out).trans B3.out)
        have KW4 := hide (KW3.out.trans k4)
        obtain ⟨c0, f0, c1, f1, d0, d1, k5⟩ := st2 B4.out (.int .i64 (lo.toNat : Nat)) (.int .i64 (hi.toNat : Nat))
        have R5 := hide (r4.kept k5 (fun h => HRL.out h.symm))
        have K5 := hide (HKF.out _ _ KW4.out k5)
        clear r4 k4 k5 h4 H4
        go_wp2
        refine bodyPost_ret (by simp [results, Tryz.results125, go_sem, d0, d1]; try rfl) rfl ?_
        refine ⟨?_, K5.out⟩
        rw [HE.out]
        exact ⟨rfl, R5.out⟩
end Go.Proofs.YtdgoilkgplnhfaaGreat
