/-
  The reader's piece by its contract. Condition: a text has at most 2^32 bytes.
-/
import Derived.Test.YtdgoilkgplnhfaaGreatB08
namespace Go.Proofs.YtdgoilkgplnhfaaGreat
open Go.RowKit Go.Lib

/-- What stands while a piece is read. -/
structure PcS (rb : Nat) (s : By) (w : World) (r : By) (W : World) : Prop where
  rd : RdS W rb s r
  res : W.heap[w.heap.size]? = some (.cells #[.int .i64 0, .int .i64 0, .bool false, .slice none 0 0] 96 (0, 0))
  kept : Kept (fun k => k = rb) w W
  rbl : rb < w.heap.size
section
variable {rb : Nat} {s r t : By} {w W W' : World}
theorem PcS.skip (h : PcS rb s w r W) (r3 : RdS W' rb s t) (k3 : Kept (fun k => k = rb) W W') : PcS rb s w t W' :=
  ⟨r3, (k3.block _ (lt_of_block h.res) (by have := h.rbl; omega)).trans h.res, h.kept.trans k3, h.rbl⟩
theorem PcS.st (h : PcS rb s w r W) (x y z u : Value) :
    (W.cell? ⟨w.heap.size, 0, none⟩ = some (.int .i64 0) ∧ W.frozen? ⟨w.heap.size, 0, none⟩ = false ∧ (W.setCell ⟨w.heap.size, 0, none⟩ x).cell? ⟨w.heap.size, 1, none⟩ = some (.int .i64 0) ∧ (W.setCell ⟨w.heap.size, 0, none⟩ x).frozen? ⟨w.heap.size, 1, none⟩ = false ∧
    ((W.setCell ⟨w.heap.size, 0, none⟩ x).setCell ⟨w.heap.size, 1, none⟩ y).cell? ⟨w.heap.size, 2, none⟩ = some (.bool false) ∧ ((W.setCell ⟨w.heap.size, 0, none⟩ x).setCell ⟨w.heap.size, 1, none⟩ y).frozen? ⟨w.heap.size, 2, none⟩ = false ∧
    (((W.setCell ⟨w.heap.size, 0, none⟩ x).setCell ⟨w.heap.size, 1, none⟩ y).setCell ⟨w.heap.size, 2, none⟩ z).cell? ⟨w.heap.size, 3, none⟩ = some (.slice none 0 0) ∧ (((W.setCell ⟨w.heap.size, 0, none⟩ x).setCell ⟨w.heap.size, 1, none⟩ y).setCell ⟨w.heap.size, 2, none⟩ z).frozen? ⟨w.heap.size, 3, none⟩ = false) ∧
    (((((W.setCell ⟨w.heap.size, 0, none⟩ x).setCell ⟨w.heap.size, 1, none⟩ y).setCell ⟨w.heap.size, 2, none⟩ z).setCell ⟨w.heap.size, 3, none⟩ u).cell? ⟨w.heap.size, 0, none⟩ = some x ∧ ((((W.setCell ⟨w.heap.size, 0, none⟩ x).setCell ⟨w.heap.size, 1, none⟩ y).setCell ⟨w.heap.size, 2, none⟩ z).setCell ⟨w.heap.size, 3, none⟩ u).cell? ⟨w.heap.size, 1, none⟩ = some y ∧
     ((((W.setCell ⟨w.heap.size, 0, none⟩ x).setCell ⟨w.heap.size, 1, none⟩ y).setCell ⟨w.heap.size, 2, none⟩ z).setCell ⟨w.heap.size, 3, none⟩ u).cell? ⟨w.heap.size, 2, none⟩ = some z ∧ ((((W.setCell ⟨w.heap.size, 0, none⟩ x).setCell ⟨w.heap.size, 1, none⟩ y).setCell ⟨w.heap.size, 2, none⟩ z).setCell ⟨w.heap.size, 3, none⟩ u).cell? ⟨w.heap.size, 3, none⟩ = some u) ∧
    RdS ((((W.setCell ⟨w.heap.size, 0, none⟩ x).setCell ⟨w.heap.size, 1, none⟩ y).setCell ⟨w.heap.size, 2, none⟩ z).setCell ⟨w.heap.size, 3, none⟩ u) rb s r ∧ Kept (fun k => k = rb) w ((((W.setCell ⟨w.heap.size, 0, none⟩ x).setCell ⟨w.heap.size, 1, none⟩ y).setCell ⟨w.heap.size, 2, none⟩ z).setCell ⟨w.heap.size, 3, none⟩ u) ∧ Kept (fun k => k = w.heap.size) W ((((W.setCell ⟨w.heap.size, 0, none⟩ x).setCell ⟨w.heap.size, 1, none⟩ y).setCell ⟨w.heap.size, 2, none⟩ z).setCell ⟨w.heap.size, 3, none⟩ u) := by
  obtain ⟨c0, f0, c1, f1, c2, f2, c3, f3, B6, k6⟩ := st4 h.res x y z u
  refine ⟨⟨c0, f0, c1, f1, c2, f2, c3, f3⟩, cells4 B6, h.rd.kept k6 (by have := h.rbl; omega), Kept.trans_new h.kept k6 (fun i hi hg => by rw [hg] at hi; exact absurd hi (Nat.lt_irrefl _)), k6⟩
end
set_option maxRecDepth 100000 in
set_option maxHeartbeats 4000000 in
theorem piece_s (rb : Nat) (s r : By) (w : World) (hl : s.length ≤ 4294967296) (h : RdS w rb s r) :
    Calls Tryz.prog 53 #[.pointer (some ⟨rb, 0, none⟩)] w fun e w' => PcIs rb s w.heap.size (pcL r) e w' ∧ Kept (fun k => k = rb) w w' := by
  have hX0 := al (Below.refl w.heap.size w) (.cells #[.int .i64 0, .int .i64 0, .bool false, .slice none 0 0] 96)
  have S : Hid (PcS rb s w r (w.alloc (.cells #[.int .i64 0, .int .i64 0, .bool false, .slice none 0 0] 96))) := ⟨h.below hX0, heap_alloc_new _ _, Kept.of_below hX0, h.lt⟩
  have HSK := hide (fun (q r' : By) (W : World) (hq : q.length ≤ 8) (h : RdS W rb s r') => skip_s rb s q r' W (by omega) hq h)
  clear h hX0
  cases hb0 : [42, 42].isPrefixOf r with
  | true =>
    have HE : Hid (pcL r = .ok (⟨5, 0, false, []⟩, r.drop 2)) := by unfold Hid pcL; rw [if_pos hb0]
    go_enter Tryz.func53, Tryz.ntmps53
    have H1 := hide (HSK.out [42, 42] r _ (by decide) S.out.rd)
    rw [hb0, if_pos rfl] at H1
    go_wp2_with (fail)
    refine H1.out.mono ?_
    rintro e wt ⟨rfl, rf, kf⟩
    have S' := hide (S.out.skip rf kf)
    clear S rf kf H1
    have S := S'
    clear S'
    clear HSK hb0
    obtain ⟨⟨c0, f0, c1, f1, c2, f2, c3, f3⟩, ⟨d0, d1, d2, d3⟩, r5, k5, _⟩ := S.out.st (.int .i64 5) (.int .i64 0) (.bool false) (.slice none 0 0)
    have R5 := hide r5
    have K5 := hide k5
    clear r5 k5
    go_wp2
    refine bodyPost_ret (by simp [results, Tryz.results53, go_sem, d0, d1, d2, d3]; try rfl) rfl ?_
    exact ⟨PcIs.mkOk HE.out none 0 rfl (OwnS.nil _ _) R5.out, K5.out⟩
  | false =>
    cases hb1 : [42].isPrefixOf r with
    | true =>
      have HE : Hid (pcL r = .ok (⟨4, 0, false, []⟩, r.drop 1)) := by unfold Hid pcL; rw [if_neg (by rw [hb0]; decide)]; rw [if_pos hb1]
      go_enter Tryz.func53, Tryz.ntmps53
      have H1 := hide (HSK.out [42, 42] r _ (by decide) S.out.rd)
      rw [hb0, if_neg (by decide)] at H1
      go_wp2_with (fail)
      refine H1.out.mono ?_
      rintro e wfhb0 ⟨rfl, rf, kf⟩
      have S' := hide (S.out.skip rf kf)
      clear S rf kf H1
      have S := S'
      clear S'
      have H1 := hide (HSK.out [42] r _ (by decide) S.out.rd)
      rw [hb1, if_pos rfl] at H1
      go_wp2_with (fail)
      refine H1.out.mono ?_
      rintro e wt ⟨rfl, rf, kf⟩
      have S' := hide (S.out.skip rf kf)
      clear S rf kf H1
      have S := S'
      clear S'
      clear HSK hb0 hb1
      obtain ⟨⟨c0, f0, c1, f1, c2, f2, c3, f3⟩, ⟨d0, d1, d2, d3⟩, r5, k5, _⟩ := S.out.st (.int .i64 4) (.int .i64 0) (.bool false) (.slice none 0 0)
      have R5 := hide r5
      have K5 := hide k5
      clear r5 k5
      go_wp2
      refine bodyPost_ret (by simp [results, Tryz.results53, go_sem, d0, d1, d2, d3]; try rfl) rfl ?_
      exact ⟨PcIs.mkOk HE.out none 0 rfl (OwnS.nil _ _) R5.out, K5.out⟩
    | false =>
      cases hb2 : [63].isPrefixOf r with
      | true =>
        have HE : Hid (pcL r = .ok (⟨2, 0, false, []⟩, r.drop 1)) := by unfold Hid pcL; rw [if_neg (by rw [hb0]; decide)]; rw [if_neg (by rw [hb1]; decide)]; rw [if_pos hb2]
        go_enter Tryz.func53, Tryz.ntmps53
        have H1 := hide (HSK.out [42, 42] r _ (by decide) S.out.rd)
        rw [hb0, if_neg (by decide)] at H1
        go_wp2_with (fail)
        refine H1.out.mono ?_
        rintro e wfhb0 ⟨rfl, rf, kf⟩
        have S' := hide (S.out.skip rf kf)
        clear S rf kf H1
        have S := S'
        clear S'
        have H1 := hide (HSK.out [42] r _ (by decide) S.out.rd)
        rw [hb1, if_neg (by decide)] at H1
        go_wp2_with (fail)
        refine H1.out.mono ?_
        rintro e wfhb1 ⟨rfl, rf, kf⟩
        have S' := hide (S.out.skip rf kf)
        clear S rf kf H1
        have S := S'
        clear S'
        have H1 := hide (HSK.out [63] r _ (by decide) S.out.rd)
        rw [hb2, if_pos rfl] at H1
        go_wp2_with (fail)
        refine H1.out.mono ?_
        rintro e wt ⟨rfl, rf, kf⟩
        have S' := hide (S.out.skip rf kf)
        clear S rf kf H1
        have S := S'
        clear S'
        clear HSK hb0 hb1 hb2
        obtain ⟨⟨c0, f0, c1, f1, c2, f2, c3, f3⟩, ⟨d0, d1, d2, d3⟩, r5, k5, _⟩ := S.out.st (.int .i64 2) (.int .i64 0) (.bool false) (.slice none 0 0)
        have R5 := hide r5
        have K5 := hide k5
        clear r5 k5
        go_wp2
        refine bodyPost_ret (by simp [results, Tryz.results53, go_sem, d0, d1, d2, d3]; try rfl) rfl ?_
        exact ⟨PcIs.mkOk HE.out none 0 rfl (OwnS.nil _ _) R5.out, K5.out⟩
      | false =>
        cases hb3 : [91].isPrefixOf r with
        | true =>
          have HE : Hid (pcL r = stL (r.drop 1)) := by unfold Hid pcL; rw [if_neg (by rw [hb0]; decide)]; rw [if_neg (by rw [hb1]; decide)]; rw [if_neg (by rw [hb2]; decide)]; rw [if_pos hb3]
          go_enter Tryz.func53, Tryz.ntmps53
          have H1 := hide (HSK.out [42, 42] r _ (by decide) S.out.rd)
          rw [hb0, if_neg (by decide)] at H1
          go_wp2_with (fail)
          refine H1.out.mono ?_
          rintro e wfhb0 ⟨rfl, rf, kf⟩
          have S' := hide (S.out.skip rf kf)
          clear S rf kf H1
          have S := S'
          clear S'
          have H1 := hide (HSK.out [42] r _ (by decide) S.out.rd)
          rw [hb1, if_neg (by decide)] at H1
          go_wp2_with (fail)
          refine H1.out.mono ?_
          rintro e wfhb1 ⟨rfl, rf, kf⟩
          have S' := hide (S.out.skip rf kf)
          clear S rf kf H1
          have S := S'
          clear S'
          have H1 := hide (HSK.out [63] r _ (by decide) S.out.rd)
          rw [hb2, if_neg (by decide)] at H1
          go_wp2_with (fail)
          refine H1.out.mono ?_
          rintro e wfhb2 ⟨rfl, rf, kf⟩
          have S' := hide (S.out.skip rf kf)
          clear S rf kf H1
          have S := S'
          clear S'
          have H1 := hide (HSK.out [91] r _ (by decide) S.out.rd)
          rw [hb3, if_pos rfl] at H1
          go_wp2_with (fail)
          refine H1.out.mono ?_
          rintro e wt ⟨rfl, rf, kf⟩
          have S' := hide (S.out.skip rf kf)
          clear S rf kf H1
          have S := S'
          clear S'
          clear HSK hb0 hb1 hb2 hb3
          have H2 := hide (set_s rb s _ _ hl S.out.rd)
          go_wp2_with (fail)
          refine H2.out.mono ?_
          rintro e w5 ⟨h5, k5⟩
          have HBS := hide (lt_of_block S.out.res)
          rw [show List.length [(91 : UInt8)] = 1 from rfl, ← HE.out] at h5
          cases hx : pcL r with
          | error t =>
            obtain ⟨⟨k, rfl⟩, r5⟩ := h5.err hx
            have S' := hide (S.out.skip r5 k5)
            clear S h5 r5 k5 H2
            have S := S'
            clear S'
            obtain ⟨⟨c0, f0, c1, f1, c2, f2, c3, f3⟩, ⟨d0, d1, d2, d3⟩, r5, k5, _⟩ := S.out.st (.int .i64 k) (.int .i64 0) (.bool false) (.slice none 0 0)
            have R5 := hide r5
            have K5 := hide k5
            clear r5 k5
            go_wp2
            refine bodyPost_ret (by simp [results, Tryz.results53, go_sem, d0, d1, d2, d3]; try rfl) rfl ?_
            exact ⟨PcIs.mkErr hx k rfl R5.out, K5.out⟩
          | ok x =>
            obtain ⟨p, t⟩ := x
            obtain ⟨⟨so, sc, rfl, o5⟩, r5⟩ := h5.ok hx
            have HBW := hide S.out.kept.size
            have S' := hide (S.out.skip r5 k5)
            have O5 := hide o5
            clear S h5 r5 k5 H2 o5
            have S := S'
            clear S'
            obtain ⟨⟨c0, f0, c1, f1, c2, f2, c3, f3⟩, ⟨d0, d1, d2, d3⟩, r5, k5, k6⟩ := S.out.st (.int .i64 p.kind) (.int .i64 p.b) (.bool p.no) (.slice so p.set.length sc)
            have R5 := hide r5
            have K5 := hide k5
            have O6 := hide ((OwnS.mono O5.out HBW.out).kept k6 (fun k hk hk2 => by have := (O5.out.lt k hk).1; have := HBS.out; omega))
            clear r5 k5 k6
            go_wp2
            refine bodyPost_ret (by simp [results, Tryz.results53, go_sem, d0, d1, d2, d3]; try rfl) rfl ?_
            exact ⟨PcIs.mkOk hx so sc rfl O6.out R5.out, K5.out⟩
        | false =>
          cases hb4 : [92].isPrefixOf r with
          | true =>
            have HE : Hid (pcL r = match tkL 32 (r.drop 1) with
              | .error t => .error t
              | .ok (c, t) => .ok (⟨1, ((c.toNat : Nat) : Int), false, []⟩, t)) := by unfold Hid pcL; rw [if_neg (by rw [hb0]; decide)]; rw [if_neg (by rw [hb1]; decide)]; rw [if_neg (by rw [hb2]; decide)]; rw [if_neg (by rw [hb3]; decide)]; rw [if_pos hb4]; cases tkL 32 (r.drop 1) <;> rfl
            go_enter Tryz.func53, Tryz.ntmps53
            have H1 := hide (HSK.out [42, 42] r _ (by decide) S.out.rd)
            rw [hb0, if_neg (by decide)] at H1
            go_wp2_with (fail)
            refine H1.out.mono ?_
            rintro e wfhb0 ⟨rfl, rf, kf⟩
            have S' := hide (S.out.skip rf kf)
            clear S rf kf H1
            have S := S'
            clear S'
            have H1 := hide (HSK.out [42] r _ (by decide) S.out.rd)
            rw [hb1, if_neg (by decide)] at H1
            go_wp2_with (fail)
            refine H1.out.mono ?_
            rintro e wfhb1 ⟨rfl, rf, kf⟩
            have S' := hide (S.out.skip rf kf)
            clear S rf kf H1
            have S := S'
            clear S'
            have H1 := hide (HSK.out [63] r _ (by decide) S.out.rd)
            rw [hb2, if_neg (by decide)] at H1
            go_wp2_with (fail)
            refine H1.out.mono ?_
            rintro e wfhb2 ⟨rfl, rf, kf⟩
            have S' := hide (S.out.skip rf kf)
            clear S rf kf H1
            have S := S'
            clear S'
            have H1 := hide (HSK.out [91] r _ (by decide) S.out.rd)
            rw [hb3, if_neg (by decide)] at H1
            go_wp2_with (fail)
            refine H1.out.mono ?_
            rintro e wfhb3 ⟨rfl, rf, kf⟩
            have S' := hide (S.out.skip rf kf)
            clear S rf kf H1
            have S := S'
            clear S'
            have H1 := hide (HSK.out [92] r _ (by decide) S.out.rd)
            rw [hb4, if_pos rfl] at H1
            go_wp2_with (fail)
            refine H1.out.mono ?_
            rintro e wt ⟨rfl, rf, kf⟩
            have S' := hide (S.out.skip rf kf)
            clear S rf kf H1
            have S := S'
            clear S'
            clear HSK hb0 hb1 hb2 hb3 hb4
            have H2 := hide (take_s rb s _ 32 _ (by omega) S.out.rd)
            go_wp2_with (fail)
            refine H2.out.mono ?_
            rintro e w5 ⟨h5, k5⟩
            cases hx : tkL 32 (r.drop 1) with
            | error t =>
              obtain ⟨rfl, r5⟩ := h5.err hx
              rw [hx] at HE
              have S' := hide (S.out.skip r5 k5)
              clear S h5 r5 k5 H2 hx
              have S := S'
              clear S'
              obtain ⟨⟨c0, f0, c1, f1, c2, f2, c3, f3⟩, ⟨d0, d1, d2, d3⟩, r5, k5, _⟩ := S.out.st (.int .i64 1) (.int .i64 0) (.bool false) (.slice none 0 0)
              have R5 := hide r5
              have K5 := hide k5
              clear r5 k5
              go_wp2
              refine bodyPost_ret (by simp [results, Tryz.results53, go_sem, d0, d1, d2, d3]; try rfl) rfl ?_
              exact ⟨PcIs.mkErr HE.out 1 rfl R5.out, K5.out⟩
            | ok x =>
              obtain ⟨c, t⟩ := x
              obtain ⟨rfl, r5⟩ := h5.ok hx
              rw [hx] at HE
              have S' := hide (S.out.skip r5 k5)
              clear S h5 r5 k5 H2 hx
              have S := S'
              clear S'
              obtain ⟨⟨c0, f0, c1, f1, c2, f2, c3, f3⟩, ⟨d0, d1, d2, d3⟩, r5, k5, _⟩ := S.out.st (.int .i64 1) (.int .i64 (c.toNat : Nat)) (.bool false) (.slice none 0 0)
              have R5 := hide r5
              have K5 := hide k5
              clear r5 k5
              go_wp2
              refine bodyPost_ret (by simp [results, Tryz.results53, go_sem, d0, d1, d2, d3]; try rfl) rfl ?_
              exact ⟨PcIs.mkOk HE.out none 0 rfl (OwnS.nil _ _) R5.out, K5.out⟩
          | false =>
            have HE : Hid (pcL r = match tkL 32 r with
              | .error t => .error t
              | .ok (c, t) => .ok (⟨1, ((c.toNat : Nat) : Int), false, []⟩, t)) := by unfold Hid pcL; rw [if_neg (by rw [hb0]; decide)]; rw [if_neg (by rw [hb1]; decide)]; rw [if_neg (by rw [hb2]; decide)]; rw [if_neg (by rw [hb3]; decide)]; rw [if_neg (by rw [hb4]; decide)]; cases tkL 32 r <;> rfl
            go_enter Tryz.func53, Tryz.ntmps53
            have H1 := hide (HSK.out [42, 42] r _ (by decide) S.out.rd)
            rw [hb0, if_neg (by decide)] at H1
            go_wp2_with (fail)
            refine H1.out.mono ?_
            rintro e wfhb0 ⟨rfl, rf, kf⟩
            have S' := hide (S.out.skip rf kf)
            clear S rf kf H1
            have S := S'
            clear S'
            have H1 := hide (HSK.out [42] r _ (by decide) S.out.rd)
            rw [hb1, if_neg (by decide)] at H1
            go_wp2_with (fail)
            refine H1.out.mono ?_
            rintro e wfhb1 ⟨rfl, rf, kf⟩
            have S' := hide (S.out.skip rf kf)
            clear S rf kf H1
            have S := S'
            clear S'
            have H1 := hide (HSK.out [63] r _ (by decide) S.out.rd)
            rw [hb2, if_neg (by decide)] at H1
            go_wp2_with (fail)
            refine H1.out.mono ?_
            rintro e wfhb2 ⟨rfl, rf, kf⟩
            have S' := hide (S.out.skip rf kf)
            clear S rf kf H1
            have S := S'
            clear S'
            have H1 := hide (HSK.out [91] r _ (by decide) S.out.rd)
            rw [hb3, if_neg (by decide)] at H1
            go_wp2_with (fail)
            refine H1.out.mono ?_
            rintro e wfhb3 ⟨rfl, rf, kf⟩
            have S' := hide (S.out.skip rf kf)
            clear S rf kf H1
            have S := S'
            clear S'
            have H1 := hide (HSK.out [92] r _ (by decide) S.out.rd)
            rw [hb4, if_neg (by decide)] at H1
            go_wp2_with (fail)
            refine H1.out.mono ?_
            rintro e wfhb4 ⟨rfl, rf, kf⟩
            have S' := hide (S.out.skip rf kf)
            clear S rf kf H1
            have S := S'
            clear S'
            clear HSK hb0 hb1 hb2 hb3 hb4
            have H2 := hide (take_s rb s _ 32 _ (by omega) S.out.rd)
            go_wp2_with (fail)
            refine H2.out.mono ?_
            rintro e w5 ⟨h5, k5⟩
            cases hx : tkL 32 r with
            | error t =>
              obtain ⟨rfl, r5⟩ := h5.err hx
              rw [hx] at HE
              have S' := hide (S.out.skip r5 k5)
              clear S h5 r5 k5 H2 hx
              have S := S'
              clear S'
              obtain ⟨⟨c0, f0, c1, f1, c2, f2, c3, f3⟩, ⟨d0, d1, d2, d3⟩, r5, k5, _⟩ := S.out.st (.int .i64 1) (.int .i64 0) (.bool false) (.slice none 0 0)
              have R5 := hide r5
              have K5 := hide k5
              clear r5 k5
              go_wp2
              refine bodyPost_ret (by simp [results, Tryz.results53, go_sem, d0, d1, d2, d3]; try rfl) rfl ?_
              exact ⟨PcIs.mkErr HE.out 1 rfl R5.out, K5.out⟩
            | ok x =>
              obtain ⟨c, t⟩ := x
              obtain ⟨rfl, r5⟩ := h5.ok hx
              rw [hx] at HE
              have S' := hide (S.out.skip r5 k5)
              clear S h5 r5 k5 H2 hx
              have S := S'
              clear S'
              obtain ⟨⟨c0, f0, c1, f1, c2, f2, c3, f3⟩, ⟨d0, d1, d2, d3⟩, r5, k5, _⟩ := S.out.st (.int .i64 1) (.int .i64 (c.toNat : Nat)) (.bool false) (.slice none 0 0)
              have R5 := hide r5
              have K5 := hide k5
              clear r5 k5
              go_wp2
              refine bodyPost_ret (by simp [results, Tryz.results53, go_sem, d0, d1, d2, d3]; try rfl) rfl ?_
              exact ⟨PcIs.mkOk HE.out none 0 rfl (OwnS.nil _ _) R5.out, K5.out⟩
end Go.Proofs.YtdgoilkgplnhfaaGreat
