/-
  The reader's piece by its contract. Condition: a text has at most 2^32 bytes.
-/
import Derived.Test.YtdgoilkgplnhfaaGreatB25
namespace Go.Proofs.YtdgoilkgplnhfaaGreat
open Go.RowKit Go.Lib

/-- What stands while a piece is read. -/
structure PcS (rb : Nat) (s : By) (w : World) (r : By) (W : World) : Prop where
  rd : RdS W rb s r
  res : W.heap[w.heap.size]? = some (.cells #[.int .i64 0, .int .i64 0, .bool false, .slice none 0 0] 96 (0, 0))
  kept : Kept (fun k => k = rb) w W
  rbl : rb < w.heap.size
section
variable {rb : Nat} {s r t : By} {w W W' : World}
theorem PcS.skip (h : PcS rb s w r W) (r3 : RdS W' rb s t) (k3 : Kept (fun k => k = rb) W W') : PcS rb s w t W' :=
  ⟨r3, (k3.block _ (lt_of_block h.res) (by have := h.rbl; omega)).trans h.res, h.kept.trans k3, h.rbl⟩
theorem PcS.st (h : PcS rb s w r W) (x y z u : Value) :
    (W.cell? ⟨w.heap.size, 0, none⟩ = some (.int .i64 0) ∧ W.frozen? ⟨w.heap.size, 0, none⟩ = false ∧ (W.setCell ⟨w.heap.size, 0, none⟩ x).cell? ⟨w.heap.size, 1, none⟩ = some (.int .i64 0) ∧ (W.setCell ⟨w.heap.size, 0, none⟩ x).frozen? ⟨w.heap.size, 1, none⟩ = false ∧
    ((W.setCell ⟨w.heap.size, 0, none⟩ x).setCell ⟨w.heap.size, 1, none⟩ y).cell? ⟨w.heap.size, 2, none⟩ = some (.bool false) ∧ ((W.setCell ⟨w.heap.size, 0, none⟩ x).setCell ⟨w.heap.size, 1, none⟩ y).frozen? ⟨w.heap.size, 2, none⟩ = false ∧
    (((W.setCell ⟨w.heap.size, 0, none⟩ x).setCell ⟨w.heap.size, 1, none⟩ y).setCell ⟨w.heap.size, 2, none⟩ z).cell? ⟨w.heap.size, 3, none⟩ = some (.slice none 0 0) ∧ (((W.setCell ⟨w.heap.size, 0, none⟩ x).setCell ⟨w.heap.size, 1, none⟩ y).setCell ⟨w.heap.size, 2, none⟩ z).frozen? ⟨w.heap.size, 3, none⟩ = false) ∧
    (((((W.setCell ⟨w.heap.size, 0, none⟩ x).setCell ⟨w.heap.size, 1, none⟩ y).setCell ⟨w.heap.size, 2, none⟩ z).setCell ⟨w.heap.size, 3, none⟩ u).cell? ⟨w.heap.size, 0, none⟩ = some x ∧ ((((W.setCell ⟨w.heap.size, 0, none⟩ x).setCell ⟨w.heap.size, 1, none⟩ y).setCell ⟨w.heap.size, 2, none⟩ z).setCell ⟨w.heap.size, 3, none⟩ u).cell? ⟨w.heap.size, 1, none⟩ = some y ∧
     ((((W.setCell ⟨w.heap.size, 0, none⟩ x).setCell ⟨w.heap.size, 1, none⟩ y).setCell ⟨w.heap.size, 2, none⟩ z).setCell ⟨w.heap.size, 3, none⟩ u).cell? ⟨w.heap.size, 2, none⟩ = some z ∧ ((((W.setCell ⟨w.heap.size, 0, none⟩ x).setCell ⟨w.heap.size, 1, none⟩ y).setCell ⟨w.heap.size, 2, none⟩ z).setCell ⟨w.heap.size, 3, none⟩ u).cell? ⟨w.heap.size, 3, none⟩ = some u) ∧
    RdS ((((W.setCell ⟨w.heap.size, 0, none⟩ x).setCell ⟨w.heap.size, 1, none⟩ y).setCell ⟨w.heap.size, 2, none⟩ z).setCell ⟨w.heap.size, 3, none⟩ u) rb s r ∧ Kept (fun k => k = rb) w ((((W.setCell ⟨w.heap.size, 0, none⟩ x).setCell ⟨w.heap.size, 1, none⟩ y).setCell ⟨w.heap.size, 2, none⟩ z).setCell ⟨w.heap.size, 3, none⟩ u) ∧ Kept (fun k => k = w.heap.size) W ((((W.setCell ⟨w.heap.size, 0, none⟩ x).setCell ⟨w.heap.size, 1, none⟩ y).setCell ⟨w.heap.size, 2, none⟩ z).setCell ⟨w.heap.size, 3, none⟩ u) := by
  obtain ⟨c0, f0, c1, f1, c2, f2, c3, f3, B6, k6⟩ := st4 h.res x y z u
  refine ⟨⟨c0, f0, c1, f1, c2, f2, c3, f3⟩, cells4 B6, h.rd.kept k6 (by have := h.rbl; omega), Kept.trans_new h.kept k6 (fun i hi hg => by rw [hg] at hi; exact absurd hi (Nat.lt_irrefl _)), k6⟩
end
set_option maxRecDepth 100000 in
set_option maxHeartbeats 4000000 in
theorem piece_s (rb : Nat) (s r : By) (w : World) (hl : s.length ≤ 4294967296) (h : RdS w rb s r) :
    Calls Tryz.prog 53 #[.pointer (some ⟨rb, 0, none⟩)] w fun e w' => PcIs rb s w.heap.size (pcL r) e w' ∧ Kept (fun k => k = rb) w w' := by
  have hX0 := al (Below.refl w.heap.size w) (.cells #[.int .i64 0, .int .i64 0, .bool false, .slice none 0 0] 96)
  have S : Hid (PcS rb s w r (w.alloc (.cells #[.int .i64 0, .int .i64 0, .bool false, .slice none 0 0] 96))) := ⟨h.below hX0, heap_alloc_new _ _, Kept.of_below hX0, h.lt⟩
  have HSK := hide (fun (q r' : By) (W : World) (hq : q.length ≤ 8) (h : RdS W rb s r') => skip_s rb s q r' W (by omega) hq h)
  clear h hX0
  cases hb0 : [42, 42].isPrefixOf r with
  | true =>
    have HE : Hid (pcL r = .ok (⟨5, 0, false, []⟩, r.drop 2)) := by unfold Hid pcL; rw [if_pos hb0]
    go_enter Tryz.func53, Tryz.ntmps53
    have H1 := hide (HSK.out [42, 42] r _ (by decide) S.out.rd)
    rw [hb0, if_pos rfl] at H1
    go_wp2_with (fail)
    refine H1.out.mono ?_
    rintro e wt ⟨rfl, rf, kf⟩
    have S' := hide (S.out.skip rf kf)
    clear S rf kf H1
    have S := S'
    clear S'
    clear HSK hb0
    obtain ⟨⟨c0, f0, c1, f1, c2, f2, c3, f3⟩, ⟨d0, d1, d2, d3⟩, r5, k5, _⟩ := S.out.st (.int .i64 5) (.int .i64 0) (.bool false) (.slice none 0 0)
    have R5 := hide r5
    have K5 := hide k5
    clear r5 k5
    go_wp2
    refine bodyPost_ret (by simp [results, Tryz.results53, go_sem, d0, d1, d2, d3]; try rfl) rfl ?_
    exact ⟨PcIs.mkOk HE.out none 0 rfl (OwnS.nil _ _) R5.out, K5.out⟩
  | false =>
    cases hb1 : [42].isPrefixOf r with
    | true =>
      have HE : Hid (pcL r = .ok (⟨4, 0, false, []⟩, r.drop 1)) := by unfold Hid pcL; rw [if_neg (by rw [hb0]; decide)]; rw [if_pos hb1]
      go_enter Tryz.func53, Tryz.ntmps53
      have H1 := hide (HSK.out [42, 42] r _ (by decide) S.out.rd)
      rw [hb0, if_neg (by decide)] at H1
      go_wp2_with (fail)
      refine H1.out.mono ?_
      rintro e wfhb0 ⟨rfl, rf, kf⟩
      have S' := hide (S.out.skip rf kf)
      clear S rf kf H1
      have S := S'
      clear S'
      have H1 := hide (HSK.out [42] r _ (by decide) S.out.rd)
      rw [hb1, if_pos rfl] at H1
      go_wp2_with (fail)
      refine H1.out.mono ?_
      rintro e wt ⟨rfl, rf, kf⟩
      have S' := hide (S.out.skip rf kf)
      clear S rf kf H1
      have S := S'
      clear S'
      clear HSK hb0 hb1
      obtain ⟨⟨c0, f0, c1, f1, c2, f2, c3, f3⟩, ⟨d0, d1, d2, d3⟩, r5, k5, _⟩ := S.out.st (.int .i64 4) (.int .i64 0) (.bool false) (.slice none 0 0)
      have R5 := hide r5
      have K5 := hide k5
      clear r5 k5
      go_wp2
      refine bodyPost_ret (by simp [results, Tryz.results53, go_sem, d0, d1, d2, d3]; try rfl) rfl ?_
      exact ⟨PcIs.mkOk HE.out none 0 rfl (OwnS.nil _ _) R5.out, K5.out⟩
    | false =>
      cases hb2 : [63].isPrefixOf r with
      | true =>
        have HE : Hid (pcL r = .ok (⟨2, 0, false, []⟩, r.drop 1)) := by unfold Hid pcL; rw [if_neg (by rw [hb0]; decide)]; rw [if_neg (by rw [hb1]; decide)]; rw [if_pos hb2]
        go_enter Tryz.func53, Tryz.ntmps53
        have H1 := hide (HSK.out [42, 42] r _ (by decide) S.out.rd)
        rw [hb0, if_neg (by decide)] at H1
        go_wp2_with (fail)
        refine H1.out.mono ?_
        rintro e wfhb0 ⟨rfl, rf, kf⟩
        have S' := hide (S.out.skip rf kf)
        clear S rf kf H1
        have S := S'
        clear S'
        have H1 := hide (HSK.out [42] r _ (by decide) S.out.rd)
        rw [hb1, if_neg (by decide)] at H1
        go_wp2_with (fail)
        refine H1.out.mono ?_
        rintro e wfhb1 ⟨rfl, rf, kf⟩
        have S' := hide (S.out.skip rf kf)
        clear S rf kf H1
        have S := S'
        clear S'
        have H1 := hide (HSK.out [63] r _ (by decide) S.out.rd)
        rw [hb2, if_pos rfl] at H1
        go_wp2_with (fail)
        refine H1.out.mono ?_
        rintro e wt ⟨rfl, rf, kf⟩
        have S' := hide (S.out.skip rf kf)
        clear S rf kf H1
        have S := S'
        clear S'
        clear HSK hb0 hb1 hb2
        obtain ⟨⟨c0, f0, c1, f1, c2, f2, c3, f3⟩, ⟨d0, d1, d2, d3⟩, r5, k5, _⟩ := S.out.st (.int .i64 2) (.int .i64 0) (.bool false) (.slice none 0 0)
        have R5 := hide r5
        have K5 := hide k5
        clear r5 k5
        go_wp2
        refine bodyPost_ret (by simp [results, Tryz.results53, go_sem, d0, d1, d2, d3]; try rfl) rfl ?_
        exact ⟨PcIs.mkOk HE.out none 0 rfl (OwnS.nil _ _) R5.out, K5.out⟩
      | false =>
        cases hb3 : [91].isPrefixOf r with
        | true =>
          have HE : Hid (pcL r = stL (r.drop 1)) := by unfold Hid pcL; rw [if_neg (by rw [hb0]; decide)]; rw [if_neg (by rw [hb1]; decide)]; rw [if_neg (by rw [hb2]; decide)]; rw [if_pos hb3]
          go_enter Tryz.func53, Tryz.ntmps53
          have H1 := hide (HSK.out [42, 42] r _ (by decide) S.out.rd)
          rw [hb0, if_neg (by decide)] at H1
          go_wp2_with (fail)
          refine H1.out.mono ?_
          rintro e wfhb0 ⟨rfl, rf, kf⟩
          have S' := hide (S.out.skip rf kf)
          clear S rf kf H1
          have S := S'
          clear S'
          have H1 := hide (HSK.out [42] r _ (by decide) S.out.rd)
          rw [hb1, if_neg (by decide)] at H1
          go_wp2_with (fail)
          refine H1.out.mono ?_
          rintro e wfhb1 ⟨rfl, rf, kf⟩
          have S' := hide (S.out.skip rf kf)
          clear S rf kf H1
          have S := S'
          clear S'
          have H1 := hide (HSK.out [63] r _ (by decide) S.out.rd)
          rw [hb2, if_neg (by decide)] at H1
          go_wp2_with (fail)
          refine H1.out.mono ?_
          rintro e wfhb2 ⟨rfl, rf, kf⟩
          have S' := hide (S.out.skip rf kf)
          clear S rf kf H1
          have S := S'
          clear S'
          have H1 := hide (HSK.out [91] r _ (by decide) S.out.rd)
          rw [hb3, if_pos rfl] at H1
          go_wp2_with (fail)
          refine H1.out.mono ?_
          rintro e wt ⟨rfl, rf, kf⟩
          have S' := hide (S.out.skip rf kf)
          clear S rf kf H1
          have S := S'
          clear S'
          clear HSK hb0 hb1 hb2 hb3
          have H2 := hide (set_s rb s _ _ hl S.out.rd)
          go_wp2_with (fail)
          refine H2.out.mono ?_
          rintro e w5 ⟨h5, k5⟩
          have HBS := hide (lt_of_block S.out.res)
          rw [show List.length [(91 : UInt8)] = 1 from rfl, ← HE.out] at h5
          cases hx : pcL r with
          | error t =>
            obtain ⟨⟨k, rfl⟩, r5⟩ := h5.err hx
            have S' := hide (S.out.skip r5 k5)
            clear S h5 r5 k5 H2
            have S := S'
            clear S'
            obtain ⟨⟨c0, f0, c1, f1, c2, f2, c3, f3⟩, ⟨d0, d1, d2, d3⟩, r5, k5, _⟩ := S.out.st (.int .i64 k) (.int .i64 0) (.bool false) (.slice none 0 0)
            have R5 := hide r5
            have K5 := hide k5
            clear r5 k5
            go_wp2
            refine bodyPost_ret (by simp [results, Tryz.results53, go_sem, d0, d1, d2, d3]; try rfl) rfl ?_
            exact ⟨PcIs.mkErr hx k rfl R5.out, K5.out⟩
          | ok x =>
            obtain ⟨p, t⟩ := x
            obtain ⟨⟨so, sc, rfl, o5⟩, r5⟩ := h5.ok hx
            have HBW := hide S.out.kept.size
            have S' := hide (S.out.skip r5 k5)
            have O5 := hide o5
            clear S h5 r5 k5 H2 o5
            have S := S'
            clear S'
            obtain ⟨⟨c0, f0, c1, f1, c2, f2, c3, f3⟩, ⟨d0, d1, d2, d3⟩, r5, k5, k6⟩ := S.out.st (.int .i64 p.kind) (.int .i64 p.b) (.bool p.no) (.slice so p.set.length sc)
            have R5 := hide r5
            have K5 := hide k5
            have O6 := hide ((OwnS.mono O5.out HBW.out).kept k6 (fun k hk hk2 => by have := (O5.out.lt k hk).1; have := HBS.out; omega))
            clear r5 k5 k6
            go_wp2
            refine bodyPost_ret (by simp [results, Tryz.results53, go_sem, d0, d1, d2, d3]; try rfl) rfl ?_
            exact ⟨PcIs.mkOk hx so sc rfl O6.out R5.out, K5.out⟩
        | false =>
          cases hb4 : [92].isPrefixOf r with
          | true =>
            have HE : Hid (pcL r = match tkL 32 (r.drop 1) with
              | .error t => .error t
              | .ok (c, t) => .ok (⟨1, ((c.toNat : Nat) : Int), false, []⟩, t)) := by unfold Hid pcL; rw [if_neg (by rw [hb0]; decide)]; rw [if_neg (by rw [hb1]; decide)]; rw [if_neg (by rw [hb2]; decide)]; rw [if_neg (by rw [hb3]; decide)]; rw [if_pos hb4]; cases tkL 32 (r.drop 1) <;> rfl
            go_enter Tryz.func53, Tryz.ntmps53
            have H1 := hide (HSK.out [42, 42] r _ (by decide) S.out.rd)
            rw [hb0, if_neg (by decide)] at H1
            go_wp2_with (fail)
            refine H1.out.mono ?_
            rintro e wfhb0 ⟨rfl, rf, kf⟩
            have S' := hide (S.out.skip rf kf)
            clear S rf kf H1
            have S := S'
            clear S'
            have H1 := hide (HSK.out [42] r _ (by decide) S.out.rd)
            rw [hb1, if_neg (by decide)] at H1
            go_wp2_with (fail)
            refine H1.out.mono ?_
            rintro e wfhb1 ⟨rfl, rf, kf⟩
            have S' := hide (S.out.skip rf kf)
            clear S rf kf H1
            have S := S'
            clear S'
            have H1 := hide (HSK.out [63] r _ (by decide) S.out.rd)
            rw [hb2, if_neg (by decide)] at H1
            go_wp2_with (fail)
            refine H1.out.mono ?_
            rintro e wfhb2 ⟨rfl, rf, kf⟩
            have S' := hide (S.out.skip rf kf)
            clear S rf kf H1
            have S := S'
            clear S'
            have H1 := hide (HSK.out [91] r _ (by decide) S.out.rd)
            rw [hb3, if_neg (by decide)] at H1
            go_wp2_with (fail)
            refine H1.out.mono ?_
            rintro e wfhb3 ⟨rfl, rf, kf⟩
            have S' := hide (S.out.skip rf kf)
            clear S rf kf H1
            have S := S'
            clear S'
            have H1 := hide (HSK.out [92] r _ (by decide) S.out.rd)
            rw [hb4, if_pos rfl] at H1
            go_wp2_with (fail)
            refine H1.out.mono ?_
            rintro e wt ⟨rfl, rf, kf⟩
            have S' := hide (S.out.skip rf kf)
            clear S rf kf H1
            have S := S'
            clear S'
            clear HSK hb0 hb1 hb2 hb3 hb4
            have H2 := hide (take_s rb s _ 32 _ (by omega) S.out.rd)
            go_wp2_with (fail)
            refine H2.out.mono ?_
            rintro e w5 ⟨h5, k5⟩
            cases hx : tkL 32 (r.drop 1) with
            | error t =>
              obtain ⟨rfl, r5⟩ := h5.err hx
              rw [hx] at HE
              have S' := hide (S.out.skip r5 k5)
              clear S h5 r5 k5 H2 hx
              have S := S'
              clear S'
              obtain ⟨⟨c0, f0, c1, f1, c2, f2, c3, f3⟩, ⟨d0, d1, d2, d3⟩, r5, k5, _⟩ := S.out.st (.int .i64 1) (.int .i64 0) (.bool false) (.slice none 0 0)
              have R5 := hide r5
              have K5 := hide k5
              clear r5 k5
              go_wp2
              refine bodyPost_ret (by simp [results, Tryz.results53, go_sem, d0, d1, d2, d3]; try rfl) rfl ?_
              exact ⟨PcIs.mkErr HE.out 1 rfl R5.out, K5.out⟩
            | ok x =>
              obtain ⟨c, t⟩ := x
              obtain ⟨rfl, r5⟩ := h5.ok hx
              rw [hx] at HE
              have S' := hide (S.out.skip r5 k5)
              clear S h5 r5 k5 H2 hx
              have S := S'
              clear S'
              obtain ⟨⟨c0, f0, c1, f1, c2, f2, c3, f3⟩, ⟨d0, d1, d2, d3⟩, r5, k5, _⟩ := S.out.st (.int .i64 1) (.int .i64 (c.toNat : Nat)) (.bool false) (.slice none 0 0)
              have R5 := hide r5
              have K5 := hide k5
              clear r5 k5
              go_wp2
              refine bodyPost_ret (by simp [results, Tryz.results53, go_sem, d0, d1, d2, d3]; try rfl) rfl ?_
              exact ⟨PcIs.mkOk HE.out none 0 rfl (OwnS.nil _ _) R5.out, K5.out⟩
          | false =>
            have HE : Hid (pcL r = match tkL 32 r with
              | .error t => .error t
              | .ok (c, t) => .ok (⟨1, ((c.toNat : Nat) : Int), false, []⟩, t)) := by unfold Hid pcL; rw [if_neg (by rw [hb0]; decide)]; rw [if_neg (by rw [hb1]; decide)]; rw [if_neg (by rw [hb2]; decide)]; rw [if_neg (by rw [hb3]; decide)]; rw [if_neg (by rw [hb4]; decide)]; cases tkL 32 r <;> rfl
            go_enter Tryz.func53, Tryz.ntmps53
            have H1 := hide (HSK.out [42, 42] r _ (by decide) S.out.rd)
            rw [hb0, if_neg (by decide)] at H1
            go_wp2_with (fail)
            refine H1.out.mono ?_
            rintro e wfhb0 ⟨rfl, rf, kf⟩
            have S' := hide (S.out.skip rf kf)
            clear S rf kf H1
            have S := S'
            clear S'
            have H1 := hide (HSK.out [42] r _ (by decide) S.out.rd)
            rw [hb1, if_neg (by decide)] at H1
            go_wp2_with (fail)
            refine H1.out.mono ?_
            rintro e wfhb1 ⟨rfl, rf, kf⟩
            have S' := hide (S.out.skip rf kf)
            clear S rf kf H1
            have S := S'
            clear S'
            have H1 := hide (HSK.out [63] r _ (by decide) S.out.rd)
            rw [hb2, if_neg (by decide)] at H1
            go_wp2_with (fail)
            refine H1.out.mono ?_
            rintro e wfhb2 ⟨rfl, rf, kf⟩
            have S' := hide (S.out.skip rf kf)
            clear S rf kf H1
            have S := S'
            clear S'
            have H1 := hide (HSK.out [91] r _ (by decide) S.out.rd)
            rw [hb3, if_neg (by decide)] at H1
            go_wp2_with (fail)
            refine H1.out.mono ?_
            rintro e wfhb3 ⟨rfl, rf, kf⟩
            have S' := hide (S.out.skip rf kf)
            clear S rf kf H1
            have S := S'
            clear S'
            have H1 := hide (HSK.out [92] r _ (by decide) S.out.rd)
            rw [hb4, if_neg (by decide)] at H1
            go_wp2_with (fail)
            refine H1.out.mono ?_
            rintro e wfhb4 ⟨rfl, rf, kf⟩
            have S' := hide (S.out.skip rf kf)
            clear S rf kf H1
            have S := S'
            clear S'
            clear HSK hb0 hb1 hb2 hb3 hb4
            have H2 := hide (take_s rb s _ 32 _ (by omega) S.out.rd)
            go_wp2_with (fail)
            refine H2.out.mono ?_
            rintro e w5 ⟨h5, k5⟩
            cases hx : tkL 32 r with
            | error t =>
              obtain ⟨rfl, r5⟩ := h5.err hx
              rw [hx] at HE
              have S' := hide (S.out.skip r5 k5)
              clear S h5 r5 k5 H2 hx
              have S := S'
              clear S'
              obtain ⟨⟨c0, f0, c1, f1, c2, f2, c3, f3⟩, ⟨d0, d1, d2, d3⟩, r5, k5, _⟩ := S.out.st (.int .i64 1) (.int .i64 0) (.bool false) (.slice none 0 0)
              have R5 := hide r5
              have K5 := hide k5
              clear r5 k5
              go_wp2
              refine bodyPost_ret (by simp [results, Tryz.results53, go_sem, d0, d1, d2, d3]; try rfl) rfl ?_
              exact ⟨PcIs.mkErr HE.out 1 rfl R5.out, K5.out⟩
            | ok x =>
              obtain ⟨c, t⟩ := x
              obtain ⟨rfl, r5⟩ := h5.ok hx
              rw [hx] at HE
              have S' := hide (S.out.skip r5 k5)
              clear S h5 r5 k5 H2 hx
              have S := S'
              clear S'
              obtain ⟨⟨c0, f0, c1, f1, c2, f2, c3, f3⟩, ⟨d0, d1, d2, d3⟩, r5, k5, _⟩ := S.out.st (.int .i64 1) (.int .i64 (c.toNat : Nat)) (.bool false) (.slice none 0 0)
              have R5 := hide r5
              have K5 := hide k5
              clear r5 k5
              go_wp2
              refine bodyPost_ret (by simp [results, Tryz.results53, go_sem, d0, d1, d2, d3]; try rfl) rfl ?_
              exact ⟨PcIs.mkOk HE.out none 0 rfl (OwnS.nil _ _) R5.out, K5.out⟩
end Go.Proofs.YtdgoilkgplnhfaaGreat
/-
  Parse by its contract. Condition: a text has at most 2^32 bytes.
-/
namespace Go.Proofs.YtdgoilkgplnhfaaGreat
open Go.RowKit Go.Lib

/-- A piece as it lies in memory: where its set is. -/
structure PD where
  p : Pc
  so : Option Addr
  sc : Nat
def PD.v (d : PD) : Value := .slice d.so d.p.set.length d.sc
def PD.cells (d : PD) : List Value := [.int .i64 d.p.kind, .int .i64 d.p.b, .bool d.p.no, d.v]
def pdCells (D : List PD) : List Value := D.flatMap PD.cells
theorem pdCells_snoc (D : List PD) (d : PD) : pdCells (D ++ [d]) = pdCells D ++ [.int .i64 d.p.kind, .int .i64 d.p.b, .bool d.p.no, .slice d.so d.p.set.length d.sc] := by simp [pdCells, PD.cells, PD.v]
/-- Pieces that came out. -/
structure OwnP (w : World) (base : Nat) (v : Value) (D : List PD) : Prop where
  row : w.ownsRow base 96 4 v D.length (pdCells D)
  sets : ∀ d ∈ D, OwnS w base d.v d.p.set
  apart : D.Pairwise (fun d e => ∀ k, d.v.ownBlock = some k → ¬ e.v.ownBlock = some k)
theorem OwnP.nil (w : World) (base : Nat) : OwnP w base (.slice none 0 0) [] := ⟨World.ownsRow_nil w base 96 4, fun d hd => (by cases hd), List.Pairwise.nil⟩
theorem OwnP.kept {F : Nat → Prop} {w w' : World} {base : Nat} {v : Value} {D : List PD} (h : OwnP w base v D) (hk : Kept F w w') (hF : ∀ k, F k → k < base) : OwnP w' base v D :=
  ⟨own_kept h.row hk (fun k hk hf => by have := (World.ownsRow.lt h.row k hk).1; have := hF k hf; omega), fun d hd => (h.sets d hd).kept hk (fun k hk hf => by have := ((h.sets d hd).lt k hk).1; have := hF k hf; omega), h.apart⟩
theorem OwnP.below {w w' : World} {base : Nat} {v : Value} {D : List PD} (h : OwnP w base v D) (hb : Below w.heap.size w w') : OwnP w' base v D :=
  ⟨own_below h.row hb, fun d hd => (h.sets d hd).below hb, h.apart⟩
theorem Tryz.info96 : (Tryz.prog.info? 96).map (fun i => (i.zero, i.size, i.bytes)) = some (some (.agg #[.int .i64 0, .int .i64 0, .bool false, .slice none 0 0]), 4, 48) := by kernel_rfl
theorem info_parts {t : TypeId} {z : Value} {s b : Nat} (h : (Tryz.prog.info? t).map (fun i => (i.zero, i.size, i.bytes)) = some (some z, s, b)) : ∃ i, Tryz.prog.info? t = some i ∧ i.zero = some z ∧ i.size = s ∧ i.bytes = b := by
  cases hi : Tryz.prog.info? t with
  | none => rw [hi] at h; cases h
  | some i => rw [hi] at h; simp at h; exact ⟨i, rfl, h.1, h.2.1, h.2.2⟩
/-- What Parse tells. -/
def PaIs (s : By) (base : Nat) (x : Except By (List Pc)) (e : Ending) (w' : World) : Prop := match x with
  | .ok L => ∃ v D, e = .returned (.tuple #[v, .int .i64 0, .int .i64 0]) ∧ OwnP w' base v D ∧ D.map PD.p = L
  | .error t => e = .returned (.tuple #[.slice none 0 0, .int .i64 50, .int .i64 ((s.length - t.length : Nat) : Int)]) ∧ t.length ≤ s.length
/-- The loop of Parse. -/
structure PaS (s : By) (w0 : World) (v : Value) (D : List PD) (r : By) (n : Nat) (wr : World) : Prop where
  own : OwnP wr (w0.heap.size + 1) v D
  rd : RdS wr w0.heap.size s r
  fuel : psL n r (D.map PD.p) = parL s
  lt : r.length < n
  len : D.length + r.length ≤ s.length
  bel : Below w0.heap.size w0 wr
  siz : w0.heap.size + 1 ≤ wr.heap.size
section
variable {s : By} {w0 : World} {v : Value} {D : List PD} {r : By} {n : Nat} {wr : World}
theorem PaS.succ (h : PaS s w0 v D r n wr) : ∃ m, n = m + 1 := ⟨n - 1, by have := h.lt; omega⟩
theorem PaS.end' (h : PaS s w0 v D r n wr) (hr : r = []) : parL s = .ok (D.map PD.p) := by
  obtain ⟨m, rfl⟩ := h.succ
  rw [← h.fuel]
  unfold psL
  rw [if_pos hr]
theorem PaS.full (h : PaS s w0 v D r n wr) (hr : ¬ r = []) (hD : D.length = 64) : parL s = .error r := by
  obtain ⟨m, rfl⟩ := h.succ
  rw [← h.fuel]
  unfold psL
  rw [if_neg hr, if_pos (by rw [List.length_map]; exact hD)]
theorem PaS.err (h : PaS s w0 v D r n wr) (hr : ¬ r = []) (hD : ¬ D.length = 64) {t : By} (hp : pcL r = .error t) : parL s = .error t := by
  obtain ⟨m, rfl⟩ := h.succ
  rw [← h.fuel]
  unfold psL
  rw [if_neg hr, if_neg (by rw [List.length_map]; exact hD), hp]
theorem OwnP.push {w4 wq : World} {base : Nat} {v v' : Value} {D : List PD} (h : OwnP w4 base v D) (d : PD) (ho : OwnS w4 base d.v d.p.set) (ha : ∀ e ∈ D, ∀ k, e.v.ownBlock = some k → ¬ d.v.ownBlock = some k)
    (h1 : wq.ownsRow base 96 4 v' (D.length + 1) (pdCells D ++ [.int .i64 d.p.kind, .int .i64 d.p.b, .bool d.p.no, .slice d.so d.p.set.length d.sc])) {F : Nat → Prop} (hk : Kept F w4 wq) (hF : ∀ k, F k → v.ownBlock = some k) : OwnP wq base v' (D ++ [d]) := by
  have hne : ∀ (e : PD), OwnS w4 base e.v e.p.set → ∀ k, e.v.ownBlock = some k → ¬ F k := fun e he k hk hf => by
    obtain ⟨cs, h5⟩ := own_ty he k hk
    obtain ⟨cs', h6⟩ := own_ty h.row k (hF k hf)
    rw [h5] at h6
    simp at h6
  refine ⟨?_, fun e he => ?_, ?_⟩
  · rw [pdCells_snoc, List.length_append]
    exact h1
  · rcases List.mem_append.1 he with he | he
    · exact (h.sets e he).kept hk (hne e (h.sets e he))
    · rw [List.mem_singleton.1 he]
      exact ho.kept hk (hne d ho)
  · rw [List.pairwise_append]
    refine ⟨h.apart, List.pairwise_singleton _ _, fun a ha' b hb => ?_⟩
    rw [List.mem_singleton.1 hb]
    exact ha a ha'
end
theorem PaS.next {s : By} {w0 : World} {v : Value} {D : List PD} {r : By} {n : Nat} {wr : World} (h : PaS s w0 v D r n wr) (hr : ¬ r = []) (hD : ¬ D.length = 64) {p : Pc} {t : By} (hp : pcL r = .ok (p, t)) {w4 wq : World} {v' : Value} (so : Option Addr) (sc : Nat)
    (ho : OwnS w4 wr.heap.size (.slice so p.set.length sc) p.set) (r4 : RdS w4 w0.heap.size s t) (k4 : Kept (fun k => k = w0.heap.size) wr w4)
    (h1 : wq.ownsRow (w0.heap.size + 1) 96 4 v' (D.length + 1) (pdCells D ++ [.int .i64 p.kind, .int .i64 p.b, .bool p.no, .slice so p.set.length sc])) (h2 : AppAt ((w4.alloc (.cells #[.int .i64 p.kind, .int .i64 p.b, .bool p.no, .slice so p.set.length sc] 96)).alloc (.cells #[.int .i64 p.kind, .int .i64 p.b, .bool p.no, .slice so p.set.length sc] 96)) wq v v') : PaS s w0 v' (D ++ [⟨p, so, sc⟩]) t (n - 1) wq := by
  obtain ⟨m, rfl⟩ := h.succ
  obtain ⟨a1, a2, a3⟩ := pcL_ok hp
  have X5 : Below w4.heap.size w4 ((w4.alloc (.cells #[.int .i64 p.kind, .int .i64 p.b, .bool p.no, .slice so p.set.length sc] 96)).alloc (.cells #[.int .i64 p.kind, .int .i64 p.b, .bool p.no, .slice so p.set.length sc] 96)) := al (al (Below.refl _ _) _) _
  obtain ⟨F, hk, hF⟩ := app_kept h2
  have o5 := (h.own.kept k4 (fun k hk => by omega)).below X5
  have hF2 : ∀ k, F k → w0.heap.size + 1 ≤ k := fun k hf => (World.ownsRow.lt o5.row k (hF k hf)).1
  refine ⟨o5.push ⟨p, so, sc⟩ ((OwnS.mono ho h.siz).below X5) (fun e he k hk1 hk2 => ?_) h1 hk hF, (r4.below X5).kept hk (fun hf => by have := hF2 _ hf; omega), ?_, ?_, ?_, ?_, ?_⟩
  · have := (ho.lt k hk2).1
    have := ((h.own.sets e he).lt k hk1).2
    omega
  · rw [← h.fuel]
    conv => rhs; unfold psL
    rw [if_neg hr, if_neg (by rw [List.length_map]; exact hD), hp, List.map_append]
    rfl
  · have := h.lt
    simp only [Nat.add_sub_cancel]
    omega
  · have := h.len
    rw [List.length_append, List.length_singleton]
    omega
  · exact ((h.bel.trans (k4.below h.bel.size (fun k hk => by omega))).trans (X5.mono (Nat.le_trans h.bel.size k4.size))).trans (hk.below (Nat.le_trans h.bel.size (Nat.le_trans k4.size X5.size)) (fun k hf => by have := hF2 k hf; omega))
  · exact Nat.le_trans h.siz (Nat.le_trans k4.size (Nat.le_trans X5.size hk.size))

set_option maxRecDepth 100000 in
set_option maxHeartbeats 4000000 in
theorem parse_any (s : By) (w : World) (hl : s.length ≤ 4294967296) :
    Calls Tryz.prog 22 #[.string ⟨s.toArray⟩] w fun e w' => PaIs s w.heap.size (parL s) e w' ∧ Below w.heap.size w w' := by
  obtain ⟨i44, hj, hy0, hy1, hy2⟩ := info_parts Tryz.info96
  have S0 : Hid (PaS s w (.slice none 0 0) [] s (s.length + 1) (w.alloc (.cells #[.string ⟨s.toArray⟩, .int .i64 0] 93))) := ⟨OwnP.nil _ _, ⟨[], rfl, heap_alloc_new _ _⟩, rfl, by omega, by simp, al (Below.refl _ _) _, by simp⟩
  go_enter Tryz.func22, Tryz.ntmps22
  go_wp2
  go_loopw [6] (fun it wr => ∃ D r n, Hid (PaS s w it D r n wr)) (fun it _ => s.length - slen it)
  case atStart => exact ⟨_, _, _, S0⟩
  case round =>
    obtain ⟨D, r, n, S⟩ := hrel
    rename World => wr
    obtain ⟨ao, cap, rfl, _⟩ := own_shape S.out.own.row
    obtain ⟨q, hq, hat⟩ := S.out.rd
    have c1 := hat.c1
    have hql : s.length = q.length + r.length := by rw [hq, List.length_append]
    have HAL0 : Hid (D.length ≤ s.length) := by have := S.out.len; unfold Hid; omega
    by_cases hr : r = []
    · have HEN := hide (S.out.end' hr)
      have hlt : ¬ (q.length : Int) < (s.length : Int) := by rw [hr] at hql; simp at hql; omega
      clear hq hat hql hr
      go_wp2
      go_ret3
      refine ⟨?_, S.out.bel⟩
      rw [HEN.out]
      exact ⟨_, D, rfl, ⟨own_mono S.out.own.row (by omega), fun d hd => (S.out.own.sets d hd).mono (by omega), S.out.own.apart⟩, rfl⟩
    · have hrl : 0 < r.length := by cases r with | nil => exact absurd rfl hr | cons c r => simp
      have hlt : (q.length : Int) < (s.length : Int) := by omega
      have HQ : Hid (q.length = s.length - r.length) := by unfold Hid; omega
      have HRS : Hid (r.length ≤ s.length) := by unfold Hid; omega
      by_cases hD : D.length = 64
      · have HE := hide (S.out.full hr hD)
        have hD' : ((D.length : Nat) : Int) = 64 := by omega
        clear hq hat hql hr hrl hD
        go_wp2
        go_quiet (fail)
        go_wp2
        go_ret3
        refine ⟨?_, S.out.bel.trans (below_drewN _ _ _)⟩
        rw [HE.out]
        exact ⟨by rw [HQ.out]; rfl, HRS.out⟩
      · have hD' : ¬ ((D.length : Nat) : Int) = 64 := by omega
        have HP := hide (piece_s w.heap.size s r wr hl S.out.rd)
        clear hq hat hql hrl
        go_wp2_with (fail)
        refine HP.out.mono ?_
        rintro e w4 ⟨h4, k4⟩
        cases hp : pcL r with
        | error t =>
          obtain ⟨⟨k, rfl⟩, r4⟩ := h4.err hp
          have HE := hide (S.out.err hr hD hp)
          have X5 : Below w4.heap.size w4 (w4.alloc (.cells #[.int .i64 k, .int .i64 0, .bool false, .slice none 0 0] 96)) := al (Below.refl _ _) _
          obtain ⟨q', hq', hat'⟩ := r4.below X5
          have d1 := hat'.c1
          have hql : s.length = q'.length + t.length := by rw [hq', List.length_append]
          have HQ' : Hid (q'.length = s.length - t.length) := by unfold Hid; omega
          have HTS : Hid (t.length ≤ s.length) := by unfold Hid; omega
          have B5 := hide ((S.out.bel.trans (k4.below S.out.bel.size (fun k hk => by omega))).trans (X5.mono (Nat.le_trans S.out.bel.size k4.size)))
          clear h4 k4 r4 X5 hq' hat' hql hp hr hD c1 HP
          go_wp2
          go_quiet (fail)
          go_wp2
          go_ret3
          refine ⟨?_, B5.out.trans (below_drewN _ _ _)⟩
          rw [HE.out]
          exact ⟨by rw [HQ'.out]; rfl, HTS.out⟩
        | ok x =>
          obtain ⟨p, t⟩ := x
          obtain ⟨⟨so, sc, rfl, o4⟩, r4⟩ := h4.ok hp
          have HNX := hide (fun wq v' (h1 : wq.ownsRow (w.heap.size + 1) 96 4 v' (D.length + 1) (pdCells D ++ [.int .i64 p.kind, .int .i64 p.b, .bool p.no, .slice so p.set.length sc])) (h2 : AppAt ((w4.alloc (.cells #[.int .i64 p.kind, .int .i64 p.b, .bool p.no, .slice so p.set.length sc] 96)).alloc (.cells #[.int .i64 p.kind, .int .i64 p.b, .bool p.no, .slice so p.set.length sc] 96)) wq (.slice ao D.length cap) v') => S.out.next hr hD hp so sc o4 r4 k4 h1 h2)
          have X5 : Below w4.heap.size w4 ((w4.alloc (.cells #[.int .i64 p.kind, .int .i64 p.b, .bool p.no, .slice so p.set.length sc] 96)).alloc (.cells #[.int .i64 p.kind, .int .i64 p.b, .bool p.no, .slice so p.set.length sc] 96)) := al (al (Below.refl _ _) _) _
          have O5 := hide ((S.out.own.kept k4 (fun k hk => by omega)).below X5).row
          have HN : Hid (∀ j u, ([.int .i64 p.kind, .int .i64 p.b, .bool p.no, .slice so p.set.length sc] : List Value)[j]? = some u → ((w4.alloc (.cells #[.int .i64 p.kind, .int .i64 p.b, .bool p.no, .slice so p.set.length sc] 96)).alloc (.cells #[.int .i64 p.kind, .int .i64 p.b, .bool p.no, .slice so p.set.length sc] 96)).cell? ((⟨w4.heap.size + 1, 0, none⟩ : Addr).add j) = some u) := by
            intro j u hu
            match j, hu with
            | 0, hu => simp at hu; subst hu; simp [Addr.add]
            | 1, hu => simp at hu; subst hu; simp [Addr.add]
            | 2, hu => simp at hu; subst hu; simp [Addr.add]
            | 3, hu => simp at hu; subst hu; simp [Addr.add]
          have HB5 : Hid (w.heap.size + 1 ≤ ((w4.alloc (.cells #[.int .i64 p.kind, .int .i64 p.b, .bool p.no, .slice so p.set.length sc] 96)).alloc (.cells #[.int .i64 p.kind, .int .i64 p.b, .bool p.no, .slice so p.set.length sc] 96)).heap.size) := Nat.le_trans S.out.siz (Nat.le_trans k4.size X5.size)
          clear h4 k4 r4 X5 hp hr o4 HP c1
          go_wp2_with (at_builtin; refine wpList_append_view rfl (.tmp 29) (.tmp 31) 39 rfl (w.heap.size + 1) 96 i44 (.agg #[.int .i64 0, .int .i64 0, .bool false, .slice none 0 0]) 4 48 Tryz.underlying39 hj hy0 hy1 hy2 rfl (by decide) _ D.length (pdCells D) rfl O5.out ⟨w4.heap.size + 1, 0, none⟩ 1 1 [.int .i64 p.kind, .int .i64 p.b, .bool p.no, .slice so p.set.length sc] rfl rfl HN.out (by simp [Value.oneCell']) (by decide) (by have := HAL0.out; unfold maxLen; omega) (by have := HAL0.out; omega) HB5.out ?_; intro v6 w6 h1 h2; have S6 := hide (HNX.out _ _ h1 h2); obtain ⟨a6, c6, rfl, _⟩ := own_shape h1; clear h1 h2)
          go_roundw
          case rel => exact ⟨_, _, _, S6⟩
          case measure =>
            have hS := S6.out.len
            rw [List.length_append, List.length_singleton] at hS
            simp only [slen]
            omega
end Go.Proofs.YtdgoilkgplnhfaaGreat
