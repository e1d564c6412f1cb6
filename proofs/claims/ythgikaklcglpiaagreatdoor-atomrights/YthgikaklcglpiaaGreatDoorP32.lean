/-
  The document's Same of two tests by its contract. Condition: lists no longer than a process can hold.
-/
import Derived.Test.YthgikaklcglpiaaGreatDoorP30
import Derived.Test.YthgikaklcglpiaaGreatDoorP23
namespace Go.Proofs.YthgikaklcglpiaaGreatDoor.L5
open Go.RowKit Go.Lib

/-- What a box holds, wherever it is read. -/
def Bx5 (w : World) (P : Nat) (x0 x1 x2 x3 x4 : Value) : Prop := ∀ V, Below w.heap.size w V → V.cell? ⟨P, 0, none⟩ = some x0 ∧ V.cell? ⟨P, 1, none⟩ = some x1 ∧ V.cell? ⟨P, 2, none⟩ = some x2 ∧ V.cell? ⟨P, 3, none⟩ = some x3 ∧ V.cell? ⟨P, 4, none⟩ = some x4
theorem Bx5.of {w : World} {P : Nat} {x0 x1 x2 x3 x4 : Value} {T : TypeId} (h : w.heap[P]? = some (.cells #[x0, x1, x2, x3, x4] T (0, 0))) : Bx5 w P x0 x1 x2 x3 x4 := fun _ y => five_of ((y.block P (lt_of_block h)).trans h)
set_option maxRecDepth 100000 in
set_option maxHeartbeats 8000000 in
theorem sameD_any (a b : AD) (w : World) (ha : AtW w a) (hb : AtW w b) : Calls Tryz.prog 16 #[.agg a.cells, .agg b.cells] w fun e w' => e = .returned (.bool (sameA a b)) ∧ Below w.heap.size w w' := by
  have XW := hide (show Below w.heap.size w ((w.alloc (.cells a.cells 35)).alloc (.cells b.cells 35)) from al (al (Below.refl _ _) _) _)
  have B1 : Hid (((w.alloc (.cells a.cells 35)).alloc (.cells b.cells 35)).heap[w.heap.size]? = some (.cells a.cells 35 (0, 0))) := (heap_alloc_old _ _ (by simp)).trans (heap_alloc_new w _)
  have B2 : Hid (((w.alloc (.cells a.cells 35)).alloc (.cells b.cells 35)).heap[w.heap.size + 1]? = some (.cells b.cells 35 (0, 0))) := by
    unfold Hid
    rw [show w.heap.size + 1 = (w.alloc (.cells a.cells 35)).heap.size by simp]
    exact heap_alloc_new _ _
  have HX1 := hide (Bx5.of B1.out)
  have HX2 := hide (Bx5.of B2.out)
  have HS := hide (fun V (y : Below w.heap.size w V) => spansD_any a.so b.so a.sc b.sc a.sp b.sp V ha.lsp (ha.sp.below y) (hb.sp.below y))
  have HA := hide ha
  have HB := hide hb
  clear ha hb B1 B2
  have hca : a.cells = #[.int .i64 a.k, .string ⟨a.nm.toArray⟩, .slice a.so a.sp.length a.sc, .slice a.no a.ns.length a.nc, .slice a.po a.D.length a.pc] := rfl
  have hcb : b.cells = #[.int .i64 b.k, .string ⟨b.nm.toArray⟩, .slice b.so b.sp.length b.sc, .slice b.no b.ns.length b.nc, .slice b.po b.D.length b.pc] := rfl
  rw [hca, hcb] at XW HX1 HX2 ⊢
  clear hca hcb
  have HSA : Hid (sameA a b = ((a.k == b.k) && ((a.nm == b.nm) && (decide (a.sp = b.sp) && (decide (a.ns = b.ns) && pcsEq a.D b.D))))) := rfl
  obtain ⟨Q, hQ⟩ : ∃ Q, Q = w.heap.size + 1 := ⟨_, rfl⟩
  obtain ⟨P, hP⟩ : ∃ P, P = w.heap.size := ⟨_, rfl⟩
  go_enter Tryz.func16, Tryz.ntmps16
  go_upto_region 1 with fail
  rw [← hQ, ← hP]
  rw [← hP] at HX1
  rw [← hQ] at HX2
  clear hP hQ
  generalize (w.alloc (.cells #[.int .i64 a.k, .string ⟨a.nm.toArray⟩, .slice a.so a.sp.length a.sc, .slice a.no a.ns.length a.nc, .slice a.po a.D.length a.pc] 35)).alloc (.cells #[.int .i64 b.k, .string ⟨b.nm.toArray⟩, .slice b.so b.sp.length b.sc, .slice b.no b.ns.length b.nc, .slice b.po b.D.length b.pc] 35) = W at *
  obtain ⟨p0, p1, p2, p3, p4⟩ := HX1.out W (Below.refl _ _)
  obtain ⟨q0, q1, q2, q3, q4⟩ := HX2.out W (Below.refl _ _)
  go_upto_region 2 with (go_at_call 40; refine (HS.out _ XW.out).mono ?_; rintro e w1 ⟨rfl, x1⟩; have Y1 := hide x1; have X1 := hide (bt XW.out x1 (Nat.le_refl _)); clear x1)
  clear p0 p1 p2 p3 p4 q0 q1 q2 q3 q4 HS
  obtain ⟨p0, p1, p2, p3, p4⟩ := HX1.out w1 Y1.out
  obtain ⟨q0, q1, q2, q3, q4⟩ := HX2.out w1 Y1.out
  by_cases hsp : a.sp = b.sp
  · have hspd : decide (a.sp = b.sp) = true := decide_eq_true hsp
    rw [hspd] at HSA
    have HSP := hide hsp
    clear hsp
    by_cases hk : a.k = b.k
    · have hkb : (a.k == b.k) = true := by simpa using hk
      have hkn : (a.k != b.k) = false := by simpa using hk
      rw [hkb] at HSA
      have HK := hide hk
      clear hk
      by_cases hm : a.nm = b.nm
      · have hmb : (a.nm == b.nm) = true := by simpa using hm
        have hmn : (a.nm != b.nm) = false := by simpa using hm
        rw [hmb] at HSA
        have HM := hide hm
        clear hm
        by_cases hn : a.ns.length = b.ns.length
        · have hnb : ((a.ns.length : Int) != (b.ns.length : Int)) = false := by simp; omega
          have hni : (a.ns.length : Int) = (b.ns.length : Int) := by omega
          by_cases hD : a.D.length = b.D.length
          · have hDb : ((a.D.length : Int) != (b.D.length : Int)) = false := by simp; omega
            have HNN := hide hn
            have HDD := hide hD
            have HLN := hide HA.out.lns
            have HLD := hide HA.out.lD
            clear hn hD
            go_wp2
            clear p0 p1 p2 p3 p4 q0 q1 q2 q3 q4 hkb hkn hmb hmn hnb hDb hspd hni
            go_loopg [6] (a.ns.length + 1) (fun g x wr => ∃ k : Nat, x = .int .i64 (k : Nat) ∧ k ≤ a.ns.length ∧ Hid (∀ j, j < k → a.ns.getD j [] = b.ns.getD j []) ∧ Hid (Below W.heap.size W wr) ∧ a.ns.length - k < g)
            case atStart => exact ⟨0, rfl, by omega, hide fun j hj => by omega, Y1, by omega⟩
            case round =>
              obtain ⟨k, rfl, hk1, HE, X, hg⟩ := hrel
              have HG := hide hg
              have XX := hide (bt XW.out X.out (Nat.le_refl _))
              obtain ⟨p0, p1, p2, p3, p4⟩ := HX1.out wr X.out
              obtain ⟨q0, q1, q2, q3, q4⟩ := HX2.out wr X.out
              clear hg p0 p1 p2 q0 q1 q2
              by_cases hk : k < a.ns.length
              · have hk' : (k : Int) < (a.ns.length : Int) := by omega
                have hkb : k < b.ns.length := by have := HNN.out; omega
                have hkb' : (k : Int) < (b.ns.length : Int) := by omega
                obtain ⟨pa, oa, eA, _, ca⟩ := (HA.out.ns.below XX.out).get hk
                obtain ⟨pb, ob, eB, _, cb⟩ := (HB.out.ns.below XX.out).get hkb
                rw [eA] at p3
                rw [eB] at q3
                have a0 := ca k hk
                have b0 := cb k hkb
                have HKK := hide hk
                have fw : wrap64 ((k : Int) + 1) = ((k + 1 : Nat) : Int) := by have := HLN.out; unfold wrap64; omega
                clear ca cb hk hkb eA eB hk1
                obtain ⟨x, hx⟩ : ∃ x, x = a.ns.getD k [] := ⟨_, rfl⟩
                obtain ⟨y, hy⟩ : ∃ y, y = b.ns.getD k [] := ⟨_, rfl⟩
                rw [← hx] at a0
                rw [← hy] at b0
                have HXX := hide hx
                have HYY := hide hy
                clear hx hy
                by_cases hxy : x = y
                · subst hxy
                  go_wp2
                  go_quiet (fail)
                  have X6 : Hid (Below W.heap.size W (wr.drewN nq)) := X.out.trans ⟨rfl, rfl, rfl, Nat.le_refl _, fun _ _ => rfl⟩
                  go_wp2
                  go_roundg (a.ns.length - (k + 1) + 1)
                  case measure => have := HG.out; have := HKK.out; omega
                  case rel => exact ⟨k + 1, by first | rfl | (rw [fw]) | go_num | (congr 1; omega), by have := HKK.out; omega, hide fun j hj => by
                    by_cases e : j = k
                    · rw [e, ← HXX.out, ← HYY.out]
                    · exact HE.out j (by omega), X6, by omega⟩
                · have HXY := hide hxy
                  have hbn : (x != y) = true := by simpa using hxy
                  have hbe : (x == y) = false := by simpa using hxy
                  have HNE : Hid (sameA a b = false) := by
                    unfold Hid
                    rw [HSA.out, show decide (a.ns = b.ns) = false from decide_eq_false (fun h => HXY.out (by rw [HXX.out, HYY.out, h]))]
                    simp
                  clear hxy
                  go_wp2
                  go_quiet (fail)
                  have X6 : Hid (Below w.heap.size w (wr.drewN nq)) := XX.out.trans ⟨rfl, rfl, rfl, Nat.le_refl _, fun _ _ => rfl⟩
                  go_wp2
                  go_ret
                  exact ⟨by rw [HNE.out]; rfl, X6.out⟩
              · have hk' : ¬ (k : Int) < (a.ns.length : Int) := by omega
                have HNS : Hid (decide (a.ns = b.ns) = true) := decide_eq_true (gD_ext [] HNN.out (fun j hj => HE.out j (by omega)))
                rw [HNS.out] at HSA
                clear HE HG hk hk1
                go_wp2
                clear p3 p4 q3 q4 hk'
                go_loopg [7] (a.D.length + 1) (fun g x wr => ∃ k : Nat, x = .int .i64 (k : Nat) ∧ k ≤ a.D.length ∧ Hid (∀ j (ha : j < a.D.length) (hb : j < b.D.length), j < k → a.D[j].p = b.D[j].p) ∧ Hid (Below W.heap.size W wr) ∧ a.D.length - k < g)
                case atStart => exact ⟨0, rfl, by omega, hide fun j _ _ hj => by omega, X, by omega⟩
                case round =>
                  clear X XX
                  obtain ⟨m, rfl, hm1, HE, X, hg⟩ := hrel
                  have HG := hide hg
                  have XX := hide (bt XW.out X.out (Nat.le_refl _))
                  obtain ⟨p0, p1, p2, p3, p4⟩ := HX1.out _ X.out
                  obtain ⟨q0, q1, q2, q3, q4⟩ := HX2.out _ X.out
                  clear hg p0 p1 p2 p3 q0 q1 q2 q3
                  by_cases hm : m < a.D.length
                  · have hm' : (m : Int) < (a.D.length : Int) := by omega
                    have hmb : m < b.D.length := by have := HDD.out; omega
                    have hmb' : (m : Int) < (b.D.length : Int) := by omega
                    obtain ⟨ra, ro, rE, rl, rc⟩ : ∃ pa oa, a.po = some ⟨pa, oa, none⟩ ∧ pa < wr.heap.size ∧ ∀ i (h : i < a.D.length), wr.cell? ⟨pa, oa + i * 4, none⟩ = some (.int .i64 a.D[i].p.kind) ∧ wr.cell? ⟨pa, oa + i * 4 + 1, none⟩ = some (.int .i64 a.D[i].p.b) ∧ wr.cell? ⟨pa, oa + i * 4 + 2, none⟩ = some (.bool a.D[i].p.no) ∧ wr.cell? ⟨pa, oa + i * 4 + 3, none⟩ = some (.slice a.D[i].so a.D[i].p.set.length a.D[i].sc) ∧ SpAt wr a.D[i].so a.D[i].p.set := by
                      rcases HA.out.pc.below XX.out with h | h
                      · rw [h] at hm; simp at hm
                      · exact h
                    obtain ⟨sa, so, sE, sl, sc⟩ : ∃ pa oa, b.po = some ⟨pa, oa, none⟩ ∧ pa < wr.heap.size ∧ ∀ i (h : i < b.D.length), wr.cell? ⟨pa, oa + i * 4, none⟩ = some (.int .i64 b.D[i].p.kind) ∧ wr.cell? ⟨pa, oa + i * 4 + 1, none⟩ = some (.int .i64 b.D[i].p.b) ∧ wr.cell? ⟨pa, oa + i * 4 + 2, none⟩ = some (.bool b.D[i].p.no) ∧ wr.cell? ⟨pa, oa + i * 4 + 3, none⟩ = some (.slice b.D[i].so b.D[i].p.set.length b.D[i].sc) ∧ SpAt wr b.D[i].so b.D[i].p.set := by
                      rcases HB.out.pc.below XX.out with h | h
                      · rw [h] at hmb; simp at hmb
                      · exact h
                    rw [rE] at p4
                    rw [sE] at q4
                    obtain ⟨r0, r1, r2, r3, r4⟩ := rc m hm
                    obtain ⟨s0, s1, s2, s3, s4⟩ := sc m hmb
                    have HKK := hide hm
                    have HKB := hide hmb
                    have HLA := hide (Nat.le_trans (HA.out.lpc _ (List.getElem_mem hm)) (show 4294967296 ≤ 140737488351232 by decide))
                    have fw : wrap64 ((m : Int) + 1) = ((m + 1 : Nat) : Int) := by have := HLD.out; unfold wrap64; omega
                    obtain ⟨x, hx⟩ : ∃ x, x = a.D[m]'hm := ⟨_, rfl⟩
                    obtain ⟨y, hy⟩ : ∃ y, y = b.D[m]'hmb := ⟨_, rfl⟩
                    rw [← hx] at r0 r1 r2 r3 r4 HLA
                    rw [← hy] at s0 s1 s2 s3 s4
                    have HXX : Hid (∀ h : m < a.D.length, x.p = a.D[m].p) := fun h => by rw [hx]
                    have HYY : Hid (∀ h : m < b.D.length, y.p = b.D[m].p) := fun h => by rw [hy]
                    clear hx hy rc sc hm hmb hm1 rE sE
                    obtain ⟨⟨xk, xb, xn, xs⟩, xo, xc⟩ := x
                    obtain ⟨⟨yk, yb, yn, ys⟩, yo, yc⟩ := y
                    simp only at r0 r1 r2 r3 r4 s0 s1 s2 s3 s4 HLA HXX HYY
                    have XA := hide (show Below wr.heap.size wr (wr.alloc (.cells #[.int .i64 xk, .int .i64 xb, .bool xn, .slice xo xs.length xc] 83)) from al (Below.refl _ _) _)
                    have BA := hide (heap_alloc_new wr (.cells #[.int .i64 xk, .int .i64 xb, .bool xn, .slice xo xs.length xc] 83))
                    have HSA1 := hide (r4.below XA.out)
                    have HSB1 := hide (s4.below XA.out)
                    have LB : Hid (sa < wr.heap.size) := sl
                    have HQ4 := hide ((HX2.out _ (bt X.out XA.out (Nat.le_refl _))).2.2.2.2)
                    clear r4 s4 rl sl
                    go_upto_region 13 with fail
                    have s0 := (XA.out.cell (p := ⟨sa, so + m * 4, none⟩) LB.out).trans s0
                    have s1 := (XA.out.cell (p := ⟨sa, so + m * 4 + 1, none⟩) LB.out).trans s1
                    have s2 := (XA.out.cell (p := ⟨sa, so + m * 4 + 2, none⟩) LB.out).trans s2
                    have s3 := (XA.out.cell (p := ⟨sa, so + m * 4 + 3, none⟩) LB.out).trans s3
                    have q4' := (XA.out.cell (p := ⟨Q, 4, none⟩) (World.block_lt_of_cell? _ _ q4)).trans q4
                    clear r0 r1 r2 r3 p4 q4 HQ4
                    obtain ⟨PB, hPB⟩ : ∃ P, P = wr.heap.size := ⟨_, rfl⟩
                    rw [← hPB] at BA ⊢
                    clear hPB
                    have XXA := hide (bt X.out XA.out (Nat.le_refl _))
                    generalize wr.alloc (.cells #[.int .i64 xk, .int .i64 xb, .bool xn, .slice xo xs.length xc] 83) = w2 at *
                    have XB := hide (show Below w2.heap.size w2 (w2.alloc (.cells #[.int .i64 yk, .int .i64 yb, .bool yn, .slice yo ys.length yc] 83)) from al (Below.refl _ _) _)
                    have BB := hide (heap_alloc_new w2 (.cells #[.int .i64 yk, .int .i64 yb, .bool yn, .slice yo ys.length yc] 83))
                    have HSA2 := hide (HSA1.out.below XB.out)
                    have HSB2 := hide (HSB1.out.below XB.out)
                    have BA2 := hide ((XB.out.block PB (lt_of_block BA.out)).trans BA.out)
                    go_upto_region 14 with fail
                    clear s0 s1 s2 s3 q4' BA HSA1 HSB1
                    have XXB := hide (bt XXA.out XB.out (Nat.le_refl _))
                    obtain ⟨QB, hQB⟩ : ∃ Q, Q = w2.heap.size := ⟨_, rfl⟩
                    rw [← hQB] at BB ⊢
                    clear hQB XA XB LB XXA
                    generalize w2.alloc (.cells #[.int .i64 yk, .int .i64 yb, .bool yn, .slice yo ys.length yc] 83) = w3 at *
                    obtain ⟨g0, g1, g2, g3⟩ := cells4 BA2.out
                    obtain ⟨h0, h1, h2, h3⟩ := cells4 BB.out
                    have HC := hide (spansD_any xo yo xc yc xs ys w3 HLA.out HSA2.out HSB2.out)
                    go_upto_region 15 with (go_at_call 40; refine HC.out.mono ?_; rintro e w4 ⟨rfl, x4⟩; have BA4 := hide ((x4.block PB (lt_of_block BA2.out)).trans BA2.out); have BB4 := hide ((x4.block QB (lt_of_block BB.out)).trans BB.out); have X4 := hide (bt XXB.out x4 (Nat.le_refl _)); clear x4)
                    clear g0 g1 g2 g3 h0 h1 h2 h3 HC BA2 BB HSA2 HSB2
                    obtain ⟨g0, g1, g2, g3⟩ := cells4 BA4.out
                    obtain ⟨h0, h1, h2, h3⟩ := cells4 BB4.out
                    have X4W := hide (bt XW.out X4.out (Nat.le_refl _))
                    have HPE := hide (pcEq_iff ⟨xk, xb, xn, xs⟩ ⟨yk, yb, yn, ys⟩)
                    have HPD : Hid (pcEq ⟨xk, xb, xn, xs⟩ ⟨yk, yb, yn, ys⟩ = ((xk == yk) && ((xb == yb) && ((xn == yn) && decide (xs = ys))))) := rfl
                    have HNE : Hid (pcEq ⟨xk, xb, xn, xs⟩ ⟨yk, yb, yn, ys⟩ = false → sameA a b = false) := fun h => by
                      rw [HSA.out, pcsEq_at HKK.out HKB.out (fun e => by rw [HPE.out.2 (by rw [HXX.out HKK.out, HYY.out HKB.out]; exact e)] at h; cases h)]
                      simp
                    cases hds : decide (xs = ys) with
                    | false =>
                      rw [hds] at HPD
                      have HR := hide (HNE.out (by rw [HPD.out]; simp))
                      go_wp2
                      go_ret
                      exact ⟨by rw [HR.out]; rfl, X4W.out⟩
                    | true =>
                      rw [hds] at HPD
                      by_cases hk2 : xk = yk
                      · have e1 : (xk == yk) = true := by simpa using hk2
                        have e2 : (xk != yk) = false := by simpa using hk2
                        rw [e1] at HPD
                        clear hk2
                        by_cases hb2 : xb = yb
                        · have e3 : (xb == yb) = true := by simpa using hb2
                          have e4 : (xb != yb) = false := by simpa using hb2
                          rw [e3] at HPD
                          clear hb2
                          by_cases hn2 : xn = yn
                          · have e5 : (xn == yn) = true := by simpa using hn2
                            have e6 : (xn != yn) = false := by simpa using hn2
                            rw [e5] at HPD
                            have HEQ := hide (HPE.out.1 (by rw [HPD.out]; rfl))
                            clear hn2 HPE HPD HNE
                            go_wp2
                            go_roundg (a.D.length - (m + 1) + 1)
                            case measure => have := HG.out; have := HKK.out; omega
                            case rel => exact ⟨m + 1, by first | rfl | (rw [fw]) | go_num | (congr 1; omega), by have := HKK.out; omega, hide fun j ha hb hj => by
                              by_cases e : j = m
                              · subst e
                                rw [← HXX.out ha, ← HYY.out hb]
                                exact HEQ.out
                              · exact HE.out j ha hb (by omega), X4, by omega⟩
                          · have e5 : (xn == yn) = false := by simpa using hn2
                            have e6 : (xn != yn) = true := by simpa using hn2
                            rw [e5] at HPD
                            have HR := hide (HNE.out (by rw [HPD.out]; rfl))
                            clear hn2
                            go_wp2
                            go_ret
                            exact ⟨by rw [HR.out]; rfl, X4W.out⟩
                        · have e3 : (xb == yb) = false := by simpa using hb2
                          have e4 : (xb != yb) = true := by simpa using hb2
                          rw [e3] at HPD
                          have HR := hide (HNE.out (by rw [HPD.out]; rfl))
                          clear hb2
                          go_wp2
                          go_ret
                          exact ⟨by rw [HR.out]; rfl, X4W.out⟩
                      · have e1 : (xk == yk) = false := by simpa using hk2
                        have e2 : (xk != yk) = true := by simpa using hk2
                        rw [e1] at HPD
                        have HR := hide (HNE.out (by rw [HPD.out]; rfl))
                        clear hk2
                        go_wp2
                        go_ret
                        exact ⟨by rw [HR.out]; rfl, X4W.out⟩
                  · have hm' : ¬ (m : Int) < (a.D.length : Int) := by omega
                    have HR : Hid (sameA a b = true) := by
                      unfold Hid
                      rw [HSA.out, pcsEq_true HDD.out (fun j ha hb => HE.out j ha hb (by omega))]
                      rfl
                    go_wp2
                    go_ret
                    exact ⟨by rw [HR.out]; rfl, XX.out⟩
          · have hDb : ((a.D.length : Int) != (b.D.length : Int)) = true := by simp; omega
            rw [pcsEq_len hD] at HSA
            clear hn hD hni
            go_wp2
            go_ret
            exact ⟨by rw [HSA.out]; simp, X1.out⟩
        · have hnb : ((a.ns.length : Int) != (b.ns.length : Int)) = true := by simp; omega
          rw [show decide (a.ns = b.ns) = false from decide_eq_false (fun h => hn (by rw [h]))] at HSA
          clear hn
          go_wp2
          go_ret
          exact ⟨by rw [HSA.out]; simp, X1.out⟩
      · have hmb : (a.nm == b.nm) = false := by simpa using hm
        have hmn : (a.nm != b.nm) = true := by simpa using hm
        rw [hmb] at HSA
        clear hm
        go_wp2
        go_ret
        exact ⟨by rw [HSA.out]; simp, X1.out⟩
    · have hkb : (a.k == b.k) = false := by simpa using hk
      have hkn : (a.k != b.k) = true := by simpa using hk
      rw [hkb] at HSA
      clear hk
      go_wp2
      go_ret
      exact ⟨by rw [HSA.out]; simp, X1.out⟩
  · have hspd : decide (a.sp = b.sp) = false := decide_eq_false hsp
    rw [hspd] at HSA
    clear hsp
    go_wp2
    go_ret
    exact ⟨by rw [HSA.out]; simp, X1.out⟩
end Go.Proofs.YthgikaklcglpiaaGreatDoor.L5
