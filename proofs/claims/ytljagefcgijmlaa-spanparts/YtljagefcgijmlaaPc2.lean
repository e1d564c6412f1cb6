/-
  What a call of the closure that gives pieces gives. No condition beyond what the state says.
-/
import Derived.Test.YtljagefcgijmlaaPc
namespace Go.Proofs.Ytljagefcgijmlaa
open Go.RowKit Go.Lib

theorem fin_post {b0 b1 : Nat} {S : List (List Spn)} {bl bm be bi bn ib : Nat} {t : GT} {wr : World} {lo hi hi1 : Int} {ins : List Bool} {es : List End} {e : End} {o : Obj} {r N : Nat} {u1 u2 u3 : Value} (h : PAt b0 b1 S bl bm be bi bn ib t wr lo ins es e) (hinv : PInv S (hi + 1) ins es) (hr : N ≤ r) (hN : b1 ≤ N) (hq : hi1 = hi + 1) :
    PAt b0 b1 S bl bm be bi bn ib t (((((wr.setCell ⟨bl, 0, none⟩ (.int .i64 hi1)).setCell ⟨r, 0, none⟩ u1).setCell ⟨r, 1, none⟩ u2).setCell ⟨r, 2, none⟩ u3).alloc o) (hi + 1) ins es e ∧
    Kept (fun k => Fp b0 b1 k ∨ k = r) wr (((((wr.setCell ⟨bl, 0, none⟩ (.int .i64 hi1)).setCell ⟨r, 0, none⟩ u1).setCell ⟨r, 1, none⟩ u2).setCell ⟨r, 2, none⟩ u3).alloc o) := by
  subst hq
  obtain ⟨a1, a2⟩ := h.move hinv
  have k3 : Kept (fun k => k = r) (wr.setCell ⟨bl, 0, none⟩ (.int .i64 (hi + 1))) ((((wr.setCell ⟨bl, 0, none⟩ (.int .i64 (hi + 1))).setCell ⟨r, 0, none⟩ u1).setCell ⟨r, 1, none⟩ u2).setCell ⟨r, 2, none⟩ u3) :=
    (((Kept.refl (fun k => k = r) _).setCell (p := ⟨r, 0, none⟩) rfl _).setCell (p := ⟨r, 1, none⟩) rfl _).setCell (p := ⟨r, 2, none⟩) rfl _
  have k4 : Kept (fun k => k = r) (wr.setCell ⟨bl, 0, none⟩ (.int .i64 (hi + 1))) (((((wr.setCell ⟨bl, 0, none⟩ (.int .i64 (hi + 1))).setCell ⟨r, 0, none⟩ u1).setCell ⟨r, 1, none⟩ u2).setCell ⟨r, 2, none⟩ u3).alloc o) :=
    k3.trans (Kept.of_below ((Below.refl _ _).alloc (Nat.le_refl _) _))
  exact ⟨a1.kept k4 (fun k hk => by omega), (a2.mono (fun _ h => .inl h)).trans (k4.mono (fun _ h => .inr h))⟩

set_option maxRecDepth 100000 in
set_option maxHeartbeats 2000000 in
theorem piece_any (b0 b1 : Nat) (S : List (List Spn)) (bl bm be bi bn ib : Nat) (t : GT) (w : World) (lo : Int) (ins : List Bool) (es : List End) (e : End) (h : PAt b0 b1 S bl bm be bi bn ib t w lo ins es e) (hlo : lo ≤ 4294967295) :
    Calls Try.prog 65 #[ptr bl, ptr bm, ptr be, ptr bi, ptr bn] w fun e w' => ∃ (hi : Int) (ins' : List Bool) (es' : List End) (e' : End), e = .returned (.tuple #[.agg #[.int .i64 lo, .int .i64 hi, .slice (some ⟨ib, 0, none⟩) S.length S.length], .bool true]) ∧
      PAt b0 b1 S bl bm be bi bn ib t w' (hi + 1) ins' es' e' ∧ Piece S lo hi ins' ∧ Edge S (hi + 1) ∧ Kept (Fp b0 b1) w w' := by
  unfold ptr
  obtain ⟨r1, r2, r3, r4, r5, r6, r7⟩ := h.rng'
  have hlow := h.inv.rng.1
  have c1 := cell_of_one h.lc
  have l1 := lt_of_block h.lc
  have eg := t.enters
  have HH := hide h
  clear h
  have hble := HH.out.le
  have n0 := heap_alloc_new w (.cells #[.int .i64 0, .int .i64 0, .slice none 0 0] 66)
  have hk0 : Kept (Fp b0 b1) w (w.alloc (.cells #[.int .i64 0, .int .i64 0, .slice none 0 0] 66)) := Kept.of_below ((Below.refl _ _).alloc (Nat.le_refl _) _)
  have hs0 : (w.alloc (.cells #[.int .i64 0, .int .i64 0, .slice none 0 0] 66)).heap.size = w.heap.size + 1 := by simp
  have st := HH.out.kept (F := fun _ => False) (Kept.of_below ((Below.refl w.heap.size w).alloc (Nat.le_refl _) (.cells #[.int .i64 0, .int .i64 0, .slice none 0 0] 66))) (fun _ _ h => h)
  go_enter Try.func65, Try.ntmps65
  go_wp2
  generalize w.alloc (.cells #[.int .i64 0, .int .i64 0, .slice none 0 0] 66) = W0 at n0 hk0 hs0 st ⊢
  have HK0 := hide hk0
  have HLE := hide hble
  go_loopw [] (fun wr => ∃ ins es e, PAt b0 b1 S bl bm be bi bn ib t wr lo ins es e ∧ es.length = left b0 b1 S bl bm be bi bn ib t lo wr ∧ Kept (Fp b0 b1) W0 wr) (fun wr => left b0 b1 S bl bm be bi bn ib t lo wr)
  case atStart =>
    obtain ⟨⟨i1, e1, e2, h1, h2⟩, _⟩ := least_spec (p := fun n => ∃ ins es e, PAt b0 b1 S bl bm be bi bn ib t W0 lo ins es e ∧ es.length = n) ⟨_, ins, es, e, st, rfl⟩
    exact ⟨i1, e1, e2, h1, h2, Kept.refl _ _⟩
  case round =>
    obtain ⟨ins, es0, e, hP, hle, hk⟩ := hrel
    clear st
    have m0 : wr.heap[w.heap.size]? = some (.cells #[.int .i64 0, .int .i64 0, .slice none 0 0] 66 (0, 0)) := (hk.block _ (by omega) (fun hf => by unfold Fp at hf; omega)).trans n0
    have hsz : w.heap.size < wr.heap.size := lt_of_block m0
    have d1 : wr.cell? ⟨w.heap.size, 0, none⟩ = some (.int .i64 0) := by rw [cell_of_row wr _ 0 _ _ _ m0]; rfl
    have d2 : wr.cell? ⟨w.heap.size, 1, none⟩ = some (.int .i64 0) := by rw [cell_of_row wr _ 1 _ _ _ m0]; rfl
    have d3 : wr.cell? ⟨w.heap.size, 2, none⟩ = some (.slice none 0 0) := by rw [cell_of_row wr _ 2 _ _ _ m0]; rfl
    have d1' := frozen_of_row wr w.heap.size 0 _ _ m0
    have d2' := frozen_of_row wr w.heap.size 1 _ _ m0
    have d3' := frozen_of_row wr w.heap.size 2 _ _ m0
    have q1 := cell_of_one hP.lc
    have q1' := free_of_one hP.lc
    have q2 := cell_of_one hP.mc
    have q3 : wr.cell? ⟨be, 0, none⟩ = some (.int .i64 e.1) := by rw [cell_of_row wr _ 0 _ _ _ hP.ec]; rfl
    have q4 : wr.cell? ⟨be, 1, none⟩ = some (.int .i64 e.2) := by rw [cell_of_row wr _ 1 _ _ _ hP.ec]; rfl
    have q5 := cell_of_one hP.ic
    have q6 := cell_of_one hP.nc
    unfold GT.val at q6
    have z1 := lt_of_block hP.lc
    have z2 := lt_of_block hP.mc
    have z3 := lt_of_block hP.ec
    have z4 := lt_of_block hP.ic
    have z5 := lt_of_block hP.nc
    have z6 := lt_of_block hP.bc
    have y1 : bl ≠ w.heap.size := by omega
    have hlen := hP.len
    have HP := hide hP
    have HL := hide hle
    have HK := hide hk
    clear hle hk m0
    by_cases hex : ∀ y ys, es0 = y :: ys → y.1 ≠ lo
    · obtain ⟨pc, pi, ped⟩ := hP.inv.piece hlo hex
      have HPC := hide pc
      have HED := hide ped
      have HI := hide pi
      have htop := pc.top
      clear pc ped pi
      cases es0 with
      | nil =>
        simp only [List.isEmpty_nil, Bool.not_true] at q2
        simp only [hiOf] at HPC HED HI htop
        clear hP hex
        go_wp2
        (try simp only [Exit.inBlock, Exit.then])
        refine bodyPost_ret (v := .tuple #[.agg #[.int .i64 lo, .int .i64 (4294967295), .slice (some ⟨ib, 0, none⟩) S.length S.length], .bool true]) ?_ rfl ?_
        · rw [results_cell_tmp rfl]
          go_simp
        · refine ⟨_, ins, [], e, rfl, (fin_post HP.out HI.out (Nat.le_refl w.heap.size) HLE.out (by omega)).1, HPC.out, HED.out, ?_⟩
          refine (HK0.out.trans HK.out).trans_new (fin_post HP.out HI.out (Nat.le_refl w.heap.size) HLE.out (by omega)).2 (fun i hi hG => ?_)
          rcases hG with h | h
          · exact h
          · omega
      | cons y ys =>
        have hy : e = y := hP.hd y ys rfl
        subst hy
        have hne : ¬ e.1 = lo := hex e ys rfl
        have hr := (hP.inv.each e (by simp))
        simp only [List.isEmpty_cons, Bool.not_false] at q2
        simp only [hiOf] at HPC HED HI htop
        have hr1 := hr.1
        have hr2 := hr.2.1
        clear hP hex hr
        go_wp2
        (try simp only [Exit.inBlock, Exit.then])
        refine bodyPost_ret (v := .tuple #[.agg #[.int .i64 lo, .int .i64 (e.1 - 1), .slice (some ⟨ib, 0, none⟩) S.length S.length], .bool true]) ?_ rfl ?_
        · rw [results_cell_tmp rfl]
          go_simp
        · refine ⟨_, ins, e :: ys, e, rfl, (fin_post HP.out HI.out (Nat.le_refl w.heap.size) HLE.out (by omega)).1, HPC.out, HED.out, ?_⟩
          refine (HK0.out.trans HK.out).trans_new (fin_post HP.out HI.out (Nat.le_refl w.heap.size) HLE.out (by omega)).2 (fun i hi hG => ?_)
          rcases hG with h | h
          · exact h
          · omega
    · have hx : ∃ y ys, es0 = y :: ys ∧ y.1 = lo := by
        cases es0 with
        | nil => exact absurd (fun y ys h => by cases h) hex
        | cons y ys =>
          by_cases hh : y.1 = lo
          · exact ⟨y, ys, rfl, hh⟩
          · exact absurd (fun y' ys' h => by cases h; exact hh) hex
      obtain ⟨y, ys, rfl, hyl⟩ := hx
      have hye : e = y := hP.hd y ys rfl
      subst hye
      have hr := (hP.inv.each e (by simp)).2.2.1
      have hil := hP.inv.len
      have q7 : wr.cell? ⟨ib, e.2, none⟩ = some (.bool (ins.getD e.2 false)) := by rw [cell_of_row wr _ _ _ _ _ hP.bc]; exact bools_get ins e.2 (by omega)
      have q7' := frozen_of_row wr ib e.2 _ _ hP.bc
      obtain ⟨bv, hbv⟩ : ∃ bv, bv = ins.getD e.2 false := ⟨_, rfl⟩
      rw [← hbv] at q7
      have HBV := hide hbv
      clear hbv
      have hri : (e.2 : Int) < (S.length : Int) := by omega
      simp only [List.isEmpty_cons, Bool.not_false] at q2
      have P := pne_of hP.ne
      obtain ⟨p1, p2, p3, p4, p5, p6, p7, p8, p9, p10, p11, p12, p13, p14, p15⟩ := P.own
      clear hP hex
      have hk1 : Kept (fun k => k = ib) wr (wr.setCell ⟨ib, e.2, none⟩ (.bool (!bv))).drew := ((Kept.refl (fun k => k = ib) wr).setCell (p := ⟨ib, e.2, none⟩) rfl _).drew
      have hb1 : (wr.setCell ⟨ib, e.2, none⟩ (.bool (!bv))).drew.heap[ib]? = some (.cells (bools (ins.set e.2 (!(ins.getD e.2 false)))) 4 (0, 0)) := by
        show (wr.setCell ⟨ib, e.2, none⟩ (.bool (!bv))).heap[ib]? = _
        rw [block_setCell HP.out.bc, bools_set, HBV.out]
      have hat1 : t.At b0 (wr.setCell ⟨ib, e.2, none⟩ (.bool (!bv))).drew ys := GT.At.kept hk1 (fun k hk => by omega) HP.out.at' (fun k hk hh => by subst hh; exact P.nt k (by simp) hk)
      have k6 : (wr.setCell ⟨ib, e.2, none⟩ (.bool (!bv))).drew.cell? ⟨bn, 0, none⟩ = some (.func (.func t.fn) #[] t.caps) := (hk1.cell (p := ⟨bn, 0, none⟩) z5 p15).trans q6
      have hcon := gives_all b0 t _ ys hat1 P.dt (fun k hk => (r7 k hk).1)
      have HK1 := hide hk1
      have HB1 := hide hb1
      clear hk1 hb1 hat1
      go_wp2
      go_region
      go_wp2_with (fail)
      refine hcon.mono ?_
      rintro e2 w2 ⟨⟨x, rfl, hx⟩, at2, k2⟩
      have s1 : w2.heap.size ≥ wr.heap.size := Nat.le_trans HK1.out.size k2.size
      have g1 : ∀ k, (k = be ∨ k = bm) → k < wr.heap.size → w2.heap[k]? = wr.heap[k]? := fun k hk hlt => by
        refine (k2.block k (Nat.lt_of_lt_of_le hlt HK1.out.size) (P.nt k (by rcases hk with h | h <;> simp [h]))).trans (HK1.out.block k hlt ?_)
        rcases hk with rfl | rfl
        · exact p12
        · exact p9
      have e1 := (g1 be (by simp) z3).trans HP.out.ec
      have e3 := (g1 bm (by simp) z2).trans HP.out.mc
      have v1 : w2.cell? ⟨be, 0, none⟩ = some (.int .i64 e.1) := by rw [cell_of_row w2 _ 0 _ _ _ e1]; rfl
      have v2 : w2.cell? ⟨be, 1, none⟩ = some (.int .i64 e.2) := by rw [cell_of_row w2 _ 1 _ _ _ e1]; rfl
      have v1' := frozen_of_row w2 be 0 _ _ e1
      have v2' := frozen_of_row w2 be 1 _ _ e1
      have v3 := cell_of_one e3
      have v3' := free_of_one e3
      have K2 := hide k2
      have AT2 := hide at2
      have HX := hide hx
      clear k2 at2 hx e1 e3 g1 hcon k6
      go_wp2
      obtain ⟨f1, f2⟩ := HP.out.turn hyl HK1.out HB1.out K2.out AT2.out HX.out
      have lsp := least_spec (p := fun n => ∃ ins es e, PAt b0 b1 S bl bm be bi bn ib t _ lo ins es e ∧ es.length = n) ⟨_, _, _, _, f1, rfl⟩
      obtain ⟨⟨i1, e1, e2, h1, h2⟩, h3⟩ := lsp
      have h4 := h3 ys.length ⟨_, _, _, f1, rfl⟩
      go_roundw
      case rel => exact ⟨i1, e1, e2, h1, h2, HK.out.trans f2⟩
      case measure =>
        have := HL.out
        simp only [List.length_cons] at this
        show left _ _ _ _ _ _ _ _ _ _ _ _ < left _ _ _ _ _ _ _ _ _ _ _ _
        unfold left at this ⊢
        omega
end Go.Proofs.Ytljagefcgijmlaa
