/-
  addsUp, atomWeighs by their contracts. Condition: lists no longer than a process can hold.
-/
import Derived.Test.YthgikaklcglpiaaGreatDoorP32
namespace Go.Proofs.YthgikaklcglpiaaGreatDoor.L5
open Go.RowKit Go.Lib

def aU (n m : Int) : Int := if 2147483647 < n ∨ 2147483647 < m then 2147483648 else n + m
theorem aU_ge {n m : Int} (hn : 0 ≤ n) (hm : 0 ≤ m) : 0 ≤ aU n m ∧ aU n m ≤ 4294967294 := by unfold aU; split <;> omega
theorem aU_le {n m : Int} (hn : 0 ≤ n) (hm : 0 ≤ m) (h : aU n m ≤ 2147483647) : n ≤ 2147483647 ∧ m ≤ 2147483647 := by unfold aU at h; split at h <;> omega
def foldU : List Nat → Int → Int
  | [], n => n
  | x :: l, n => if n ≤ 2147483647 then foldU l (aU n x) else n
theorem foldU_le : ∀ (l : List Nat) (n : Int), 0 ≤ n → foldU l n ≤ 2147483647 → n ≤ 2147483647 ∧ ∀ x ∈ l, x ≤ 2147483647
  | [], n, _, h => ⟨h, fun x hx => (by cases hx)⟩
  | x :: l, n, h0, h => by
    unfold foldU at h
    split at h
    · obtain ⟨h1, h2⟩ := foldU_le l _ (aU_ge h0 (Int.natCast_nonneg x)).1 h
      obtain ⟨h3, h4⟩ := aU_le h0 (Int.natCast_nonneg x) h1
      refine ⟨h3, fun y hy => ?_⟩
      rcases List.mem_cons.1 hy with rfl | hy
      · omega
      · exact h2 y hy
    · omega
theorem foldU_ge : ∀ (l : List Nat) (n : Int), 0 ≤ n → n ≤ 4294967294 → 0 ≤ foldU l n ∧ foldU l n ≤ 4294967294
  | [], n, h0, h1 => ⟨h0, h1⟩
  | x :: l, n, h0, h1 => by
    unfold foldU
    split
    · exact foldU_ge l _ (aU_ge h0 (Int.natCast_nonneg x)).1 (aU_ge h0 (Int.natCast_nonneg x)).2
    · exact ⟨h0, h1⟩
def aw0 (a : AD) : Int := aU (aU a.nm.length a.sp.length) (aU a.ns.length a.D.length)
def aw1 (a : AD) : Int := foldU (a.ns.map List.length) (aw0 a)
def awP (a : AD) : Int := foldU (a.D.map (fun d => d.p.set.length)) (aw1 a)
theorem aw0_ge (a : AD) : 0 ≤ aw0 a ∧ aw0 a ≤ 4294967294 := aU_ge (aU_ge (by omega) (by omega)).1 (aU_ge (by omega) (by omega)).1
theorem aw1_ge (a : AD) : 0 ≤ aw1 a ∧ aw1 a ≤ 4294967294 := foldU_ge _ _ (aw0_ge a).1 (aw0_ge a).2
theorem awP_ge (a : AD) : 0 ≤ awP a ∧ awP a ≤ 4294967294 := foldU_ge _ _ (aw1_ge a).1 (aw1_ge a).2
theorem awP_le (a : AD) (h : awP a ≤ 2147483647) : (∀ d ∈ a.D, d.p.set.length ≤ 2147483647) ∧ a.D.length ≤ 2147483647 := by
  obtain ⟨h1, h2⟩ := foldU_le _ _ (aw1_ge a).1 h
  obtain ⟨h3, _⟩ := foldU_le _ _ (aw0_ge a).1 h1
  obtain ⟨_, h5⟩ := aU_le (aU_ge (by omega) (by omega)).1 (aU_ge (by omega) (by omega)).1 h3
  obtain ⟨_, h6⟩ := aU_le (n := a.ns.length) (m := a.D.length) (by omega) (by omega) h5
  exact ⟨fun d hd => h2 _ (List.mem_map.2 ⟨d, hd, rfl⟩), by omega⟩
set_option maxRecDepth 100000 in
theorem addsUp_any (n m : Int) (w : World) (hn : 0 ≤ n) (hm : 0 ≤ m) : Calls Tryz.prog 9 #[.int .i64 n, .int .i64 m] w fun e w' => e = .returned (.int .i64 (aU n m)) ∧ w' = w := by
  by_cases h1 : 2147483647 < n
  · have HE : Hid (aU n m = 2147483648) := if_pos (.inl h1)
    go_enter Tryz.func9, Tryz.ntmps9
    go_wp2
    go_ret
    exact ⟨by rw [HE.out]; rfl, rfl⟩
  · by_cases h2 : 2147483647 < m
    · have HE : Hid (aU n m = 2147483648) := if_pos (.inr h2)
      go_enter Tryz.func9, Tryz.ntmps9
      go_wp2
      go_ret
      exact ⟨by rw [HE.out]; rfl, rfl⟩
    · have HE : Hid (aU n m = n + m) := if_neg (by omega)
      have fw : wrap64 (n + m) = n + m := by unfold wrap64; omega
      go_enter Tryz.func9, Tryz.ntmps9
      go_wp2
      go_ret
      exact ⟨by rw [HE.out]; rfl, rfl⟩
set_option maxRecDepth 100000 in
set_option maxHeartbeats 4000000 in
theorem weighs_any (a : AD) (w : World) (hpc : PcAt w a.po a.D) (hns : StAt w a.no a.ns) (hln : a.ns.length ≤ 140737488351232) (hlD : a.D.length ≤ 140737488351232) :
    Calls Tryz.prog 19 #[.agg a.cells] w fun e w' => e = .returned (.int .i64 (awP a)) ∧ Below w.heap.size w w' := by
  have XW := hide (show Below w.heap.size w (w.alloc (.cells a.cells 35)) from al (Below.refl _ _) _)
  have B1 := hide (heap_alloc_new w (.cells a.cells 35))
  have HX1 := hide (Bx5.of (x0 := .int .i64 a.k) (x1 := .string ⟨a.nm.toArray⟩) (x2 := .slice a.so a.sp.length a.sc) (x3 := .slice a.no a.ns.length a.nc) (x4 := .slice a.po a.D.length a.pc) B1.out)
  have hca : a.cells = #[.int .i64 a.k, .string ⟨a.nm.toArray⟩, .slice a.so a.sp.length a.sc, .slice a.no a.ns.length a.nc, .slice a.po a.D.length a.pc] := rfl
  rw [hca] at XW HX1 ⊢
  have HPC := hide hpc
  have HNS := hide hns
  have HLN := hide hln
  have HLD := hide hlD
  have hsz := size_by a.nm
  clear B1 hca hpc hns hln hlD
  obtain ⟨P, hP⟩ : ∃ P, P = w.heap.size := ⟨_, rfl⟩
  go_enter Tryz.func19, Tryz.ntmps19
  go_upto_region 1 with fail
  rw [← hP]
  rw [← hP] at HX1
  clear hP
  generalize w.alloc (.cells #[.int .i64 a.k, .string ⟨a.nm.toArray⟩, .slice a.so a.sp.length a.sc, .slice a.no a.ns.length a.nc, .slice a.po a.D.length a.pc] 35) = W at *
  obtain ⟨p0, p1, p2, p3, p4⟩ := HX1.out W (Below.refl _ _)
  have HW0 : Hid (aw0 a = aU (aU a.nm.length a.sp.length) (aU a.ns.length a.D.length)) := rfl
  have U1 := (aU_ge (n := (a.nm.length : Int)) (m := (a.sp.length : Int)) (by omega) (by omega)).1
  have U2 := (aU_ge (n := (a.ns.length : Int)) (m := (a.D.length : Int)) (by omega) (by omega)).1
  go_quiet ((go_at_call 9; exact Calls.quiet_of_same (addsUp_any _ _ _ (by omega) (by omega))))
  have Y1 : Hid (Below W.heap.size W (W.drewN nq)) := ⟨rfl, rfl, rfl, Nat.le_refl _, fun _ _ => rfl⟩
  have HG0 := hide (aw0_ge a)
  have HT1 : Hid (foldU ((a.ns.map List.length).drop 0) (aw0 a) = aw1 a) := rfl
  rw [HW0.out] at HG0 HT1
  generalize aU (aU (a.nm.length : Int) (a.sp.length : Int)) (aU (a.ns.length : Int) (a.D.length : Int)) = t0 at *
  clear HW0 U1 U2
  go_wp2
  clear p0 p1 p2 p3 p4
  go_loopg [3, 4] (a.ns.length + 1) (fun g x x4 wr => ∃ (k : Nat) (n : Int), x = .int .i64 n ∧ x4 = .int .i64 (k : Nat) ∧ k ≤ a.ns.length ∧ Hid (foldU ((a.ns.map List.length).drop k) n = aw1 a) ∧ Hid (0 ≤ n ∧ n ≤ 4294967294) ∧ Hid (Below W.heap.size W wr) ∧ a.ns.length - k < g)
  case atStart => exact ⟨0, t0, rfl, rfl, by omega, HT1, HG0, Y1, by omega⟩
  case round =>
    clear Y1 HT1 HG0
    obtain ⟨k, n, rfl, rfl, hk1, HT, HN, X, hg⟩ := hrel
    have HG := hide hg
    have XX := hide (bt XW.out X.out (Nat.le_refl _))
    obtain ⟨p0, p1, p2, p3, p4⟩ := HX1.out _ X.out
    clear hg p0 p1 p2 p4
    by_cases hgo : k < a.ns.length ∧ n ≤ 2147483647
    · have hk' : (k : Int) < (a.ns.length : Int) := by omega
      have hn' : n ≤ 2147483647 := hgo.2
      obtain ⟨pa, oa, eA, _, ca⟩ := (HNS.out.below XX.out).get hgo.1
      have a0 := ca k hgo.1
      rw [eA] at p3
      obtain ⟨x, hx⟩ : ∃ x, x = a.ns.getD k [] := ⟨_, rfl⟩
      rw [← hx] at a0
      have hxz := size_by x
      have HD : Hid (foldU ((a.ns.map List.length).drop (k + 1)) (aU n x.length) = aw1 a) := by
        have h := HT.out
        rw [List.drop_eq_getElem_cons (show k < (a.ns.map List.length).length by simpa using hgo.1)] at h
        unfold foldU at h
        rw [if_pos hn', List.getElem_map] at h
        rw [hx, List.getD_eq_getElem?_getD, List.getElem?_eq_getElem hgo.1]
        exact h
      have HGE := hide (aU_ge HN.out.1 (Int.natCast_nonneg x.length))
      have HAD := hide (fun V => addsUp_any n (x.length : Int) V HN.out.1 (by omega))
      have fw : wrap64 ((k : Int) + 1) = ((k + 1 : Nat) : Int) := by have := HLN.out; unfold wrap64; omega
      have HKK := hide hgo.1
      clear ca eA hx hgo hk1 HT
      generalize aU n x.length = n2 at *
      go_wp2_with (go_at_call 9; refine (HAD.out _).mono ?_; rintro e w2 ⟨rfl, hw⟩; have hw2 := hw.symm; clear hw; subst hw2)
      go_roundg (a.ns.length - (k + 1) + 1)
      case measure => have := HG.out; have := HKK.out; omega
      case rel => exact ⟨k + 1, n2, rfl, by first | rfl | (rw [fw]) | go_num | (congr 1; omega), by have := HKK.out; omega, HD, HGE, X, by omega⟩
    · have HTT : Hid (aw1 a = n) := by
        unfold Hid
        rw [← HT.out]
        by_cases h1 : k < a.ns.length
        · rw [List.drop_eq_getElem_cons (show k < (a.ns.map List.length).length by simpa using h1)]
          unfold foldU
          rw [if_neg (fun h => hgo ⟨h1, h⟩)]
        · rw [List.drop_eq_nil_of_le (by simp; omega)]
          rfl
      have HT2 : Hid (foldU ((a.D.map (fun d => d.p.set.length)).drop 0) n = awP a) := by
        unfold Hid
        rw [← HTT.out]
        rfl
      have HSPL : Hid (¬ (k < a.ns.length) ∨ (k < a.ns.length ∧ ¬ n ≤ 2147483647)) := by
        by_cases h1 : k < a.ns.length
        · exact .inr ⟨h1, fun h => hgo ⟨h1, h⟩⟩
        · exact .inl h1
      clear hgo HT HTT
      rcases HSPL.out with h1 | ⟨h1, h2⟩
      · have hk' : ¬ (k : Int) < (a.ns.length : Int) := by omega
        clear HSPL h1 hk1
        go_wp2
        clear p3 hk'
        go_loopg [3, 5] (a.D.length + 1) (fun g x x4 wr => ∃ (k : Nat) (n : Int), x = .int .i64 n ∧ x4 = .int .i64 (k : Nat) ∧ k ≤ a.D.length ∧ Hid (foldU ((a.D.map (fun d => d.p.set.length)).drop k) n = awP a) ∧ Hid (0 ≤ n ∧ n ≤ 4294967294) ∧ Hid (Below W.heap.size W wr) ∧ a.D.length - k < g)
        case atStart => exact ⟨0, n, rfl, rfl, by omega, HT2, HN, X, by omega⟩
        case round =>
          clear X HT2 HN XX HG
          obtain ⟨m, n, rfl, rfl, hm1, HT, HN, X, hg⟩ := hrel
          have HG := hide hg
          have XX := hide (bt XW.out X.out (Nat.le_refl _))
          obtain ⟨p0, p1, p2, p3, p4⟩ := HX1.out _ X.out
          clear hg p0 p1 p2 p3
          by_cases hgo : m < a.D.length ∧ n ≤ 2147483647
          · have hm' : (m : Int) < (a.D.length : Int) := by omega
            have hn' : n ≤ 2147483647 := hgo.2
            obtain ⟨pa, oa, eA, _, ca⟩ : ∃ pa oa, a.po = some ⟨pa, oa, none⟩ ∧ pa < wr.heap.size ∧ ∀ i (h : i < a.D.length), wr.cell? ⟨pa, oa + i * 4, none⟩ = some (.int .i64 a.D[i].p.kind) ∧ wr.cell? ⟨pa, oa + i * 4 + 1, none⟩ = some (.int .i64 a.D[i].p.b) ∧ wr.cell? ⟨pa, oa + i * 4 + 2, none⟩ = some (.bool a.D[i].p.no) ∧ wr.cell? ⟨pa, oa + i * 4 + 3, none⟩ = some (.slice a.D[i].so a.D[i].p.set.length a.D[i].sc) ∧ SpAt wr a.D[i].so a.D[i].p.set := by
              rcases HPC.out.below XX.out with h | h
              · have h1 := hgo.1; rw [h] at h1; simp at h1
              · exact h
            have a0 := (ca m hgo.1).2.2.2.1
            rw [eA] at p4
            obtain ⟨x, hx⟩ : ∃ x, x = a.D[m]'hgo.1 := ⟨_, rfl⟩
            rw [← hx] at a0
            have HD : Hid (foldU ((a.D.map (fun d => d.p.set.length)).drop (m + 1)) (aU n x.p.set.length) = awP a) := by
              have h := HT.out
              rw [List.drop_eq_getElem_cons (show m < (a.D.map (fun d => d.p.set.length)).length by simpa using hgo.1)] at h
              unfold foldU at h
              rw [if_pos hn', List.getElem_map] at h
              rw [hx]
              exact h
            have HGE := hide (aU_ge HN.out.1 (Int.natCast_nonneg x.p.set.length))
            have HAD := hide (fun V => addsUp_any n (x.p.set.length : Int) V HN.out.1 (by omega))
            have fw : wrap64 ((m : Int) + 1) = ((m + 1 : Nat) : Int) := by have := HLD.out; unfold wrap64; omega
            have HKK := hide hgo.1
            clear ca eA hx hgo hm1 HT
            generalize aU n x.p.set.length = n2 at *
            go_wp2_with (go_at_call 9; refine (HAD.out _).mono ?_; rintro e w2 ⟨rfl, hw⟩; have hw2 := hw.symm; clear hw; subst hw2)
            go_roundg (a.D.length - (m + 1) + 1)
            case measure => have := HG.out; have := HKK.out; omega
            case rel => exact ⟨m + 1, n2, rfl, by first | rfl | (rw [fw]) | go_num | (congr 1; omega), by have := HKK.out; omega, HD, HGE, X, by omega⟩
          · have HTT : Hid (awP a = n) := by
              unfold Hid
              rw [← HT.out]
              by_cases h1 : m < a.D.length
              · rw [List.drop_eq_getElem_cons (show m < (a.D.map (fun d => d.p.set.length)).length by simpa using h1)]
                unfold foldU
                rw [if_neg (fun h => hgo ⟨h1, h⟩)]
              · rw [List.drop_eq_nil_of_le (by simp; omega)]
                rfl
            by_cases h1 : m < a.D.length
            · have hm' : (m : Int) < (a.D.length : Int) := by omega
              have hn' : ¬ n ≤ 2147483647 := fun h => hgo ⟨h1, h⟩
              clear hgo HT h1
              go_wp2
              go_ret
              exact ⟨by rw [HTT.out]; rfl, XX.out⟩
            · have hm' : ¬ (m : Int) < (a.D.length : Int) := by omega
              clear hgo HT h1
              go_wp2
              go_ret
              exact ⟨by rw [HTT.out]; rfl, XX.out⟩
      · have hk' : (k : Int) < (a.ns.length : Int) := by omega
        have hn' : ¬ n ≤ 2147483647 := h2
        clear HSPL h1 hk1 h2
        go_wp2
        clear p3 hk' hn'
        go_loopg [3, 5] (a.D.length + 1) (fun g x x4 wr => ∃ (k : Nat) (n : Int), x = .int .i64 n ∧ x4 = .int .i64 (k : Nat) ∧ k ≤ a.D.length ∧ Hid (foldU ((a.D.map (fun d => d.p.set.length)).drop k) n = awP a) ∧ Hid (0 ≤ n ∧ n ≤ 4294967294) ∧ Hid (Below W.heap.size W wr) ∧ a.D.length - k < g)
        case atStart => exact ⟨0, n, rfl, rfl, by omega, HT2, HN, X, by omega⟩
        case round =>
          clear X HT2 HN XX HG
          obtain ⟨m, n, rfl, rfl, hm1, HT, HN, X, hg⟩ := hrel
          have HG := hide hg
          have XX := hide (bt XW.out X.out (Nat.le_refl _))
          obtain ⟨p0, p1, p2, p3, p4⟩ := HX1.out _ X.out
          clear hg p0 p1 p2 p3
          by_cases hgo : m < a.D.length ∧ n ≤ 2147483647
          · have hm' : (m : Int) < (a.D.length : Int) := by omega
            have hn' : n ≤ 2147483647 := hgo.2
            obtain ⟨pa, oa, eA, _, ca⟩ : ∃ pa oa, a.po = some ⟨pa, oa, none⟩ ∧ pa < wr.heap.size ∧ ∀ i (h : i < a.D.length), wr.cell? ⟨pa, oa + i * 4, none⟩ = some (.int .i64 a.D[i].p.kind) ∧ wr.cell? ⟨pa, oa + i * 4 + 1, none⟩ = some (.int .i64 a.D[i].p.b) ∧ wr.cell? ⟨pa, oa + i * 4 + 2, none⟩ = some (.bool a.D[i].p.no) ∧ wr.cell? ⟨pa, oa + i * 4 + 3, none⟩ = some (.slice a.D[i].so a.D[i].p.set.length a.D[i].sc) ∧ SpAt wr a.D[i].so a.D[i].p.set := by
              rcases HPC.out.below XX.out with h | h
              · have h1 := hgo.1; rw [h] at h1; simp at h1
              · exact h
            have a0 := (ca m hgo.1).2.2.2.1
            rw [eA] at p4
            obtain ⟨x, hx⟩ : ∃ x, x = a.D[m]'hgo.1 := ⟨_, rfl⟩
            rw [← hx] at a0
            have HD : Hid (foldU ((a.D.map (fun d => d.p.set.length)).drop (m + 1)) (aU n x.p.set.length) = awP a) := by
              have h := HT.out
              rw [List.drop_eq_getElem_cons (show m < (a.D.map (fun d => d.p.set.length)).length by simpa using hgo.1)] at h
              unfold foldU at h
              rw [if_pos hn', List.getElem_map] at h
              rw [hx]
              exact h
            have HGE := hide (aU_ge HN.out.1 (Int.natCast_nonneg x.p.set.length))
            have HAD := hide (fun V => addsUp_any n (x.p.set.length : Int) V HN.out.1 (by omega))
            have fw : wrap64 ((m : Int) + 1) = ((m + 1 : Nat) : Int) := by have := HLD.out; unfold wrap64; omega
            have HKK := hide hgo.1
            clear ca eA hx hgo hm1 HT
            generalize aU n x.p.set.length = n2 at *
            go_wp2_with (go_at_call 9; refine (HAD.out _).mono ?_; rintro e w2 ⟨rfl, hw⟩; have hw2 := hw.symm; clear hw; subst hw2)
            go_roundg (a.D.length - (m + 1) + 1)
            case measure => have := HG.out; have := HKK.out; omega
            case rel => exact ⟨m + 1, n2, rfl, by first | rfl | (rw [fw]) | go_num | (congr 1; omega), by have := HKK.out; omega, HD, HGE, X, by omega⟩
          · have HTT : Hid (awP a = n) := by
              unfold Hid
              rw [← HT.out]
              by_cases h1 : m < a.D.length
              · rw [List.drop_eq_getElem_cons (show m < (a.D.map (fun d => d.p.set.length)).length by simpa using h1)]
                unfold foldU
                rw [if_neg (fun h => hgo ⟨h1, h⟩)]
              · rw [List.drop_eq_nil_of_le (by simp; omega)]
                rfl
            by_cases h1 : m < a.D.length
            · have hm' : (m : Int) < (a.D.length : Int) := by omega
              have hn' : ¬ n ≤ 2147483647 := fun h => hgo ⟨h1, h⟩
              clear hgo HT h1
              go_wp2
              go_ret
              exact ⟨by rw [HTT.out]; rfl, XX.out⟩
            · have hm' : ¬ (m : Int) < (a.D.length : Int) := by omega
              clear hgo HT h1
              go_wp2
              go_ret
              exact ⟨by rw [HTT.out]; rfl, XX.out⟩
end Go.Proofs.YthgikaklcglpiaaGreatDoor.L5
