/-
  closed by its contract. Condition: there are at most 64 pieces.
-/
import Derived.Test.YtaiijdnfimclbaaPlc
import Derived.Laws.CopyOwn
namespace Go.Proofs.Ytaiijdnfimclbaa
open Go.RowKit Go.Lib

theorem getD_map (D : List PD) (k : Nat) (h : k < D.length) : ((D.map PD.p).getD k ⟨0, 0, false, []⟩) = D[k].p := by simp [List.getD_eq_getElem?_getD, h]
theorem clF_yes {D : List PD} {f : Nat → Bool} {k : Nat} (h : k < D.length) (h1 : clF (D.map PD.p) f k k = true) (h2 : manyK D[k].p.kind = true) : clF (D.map PD.p) f (k + 1) = upd (clF (D.map PD.p) f k) (k + 1) := by
  conv => lhs; unfold clF
  rw [getD_map D k h, h1, h2]
  rfl
theorem clF_no {D : List PD} {f : Nat → Bool} {k : Nat} (h : k < D.length) (h1 : (clF (D.map PD.p) f k k && manyK D[k].p.kind) = false) : clF (D.map PD.p) f (k + 1) = clF (D.map PD.p) f k := by
  conv => lhs; unfold clF
  rw [getD_map D k h, h1]
  rfl
set_option maxRecDepth 100000 in
set_option maxHeartbeats 4000000 in
theorem closed_any (ao : Option Addr) (cap : Nat) (D : List PD) (f : Nat → Bool) (w : World) (hl : D.length ≤ 64) (hat : PcAt w ao D) :
    Calls Try.prog 36 #[.slice ao D.length cap, .agg (mk f)] w fun e w' => e = .returned (.agg (mk (clF (D.map PD.p) f D.length))) ∧ Below w.heap.size w w' := by
  obtain ⟨hzv, hsz⟩ := zero_of_info Try.info78
  have hs := mk_size f
  have HAT := hide hat
  have HXS : Hid (Below w.heap.size w ((w.alloc (.cells (mk f) 78)).alloc (.cells (mk fun _ => false) 78))) := al (al (Below.refl _ _) _) _
  have B0 : Hid (((w.alloc (.cells (mk f) 78)).alloc (.cells (mk fun _ => false) 78)).heap[w.heap.size]? = some (.cells (mk f) 78 (0, 0))) := ((al (Below.refl _ _) (.cells (mk fun _ => false) 78) : Below (w.alloc (.cells (mk f) 78)).heap.size (w.alloc (.cells (mk f) 78)) _).block _ (by simp)).trans (heap_alloc_new _ _)
  have B1 : Hid (((w.alloc (.cells (mk f) 78)).alloc (.cells (mk fun _ => false) 78)).heap[w.heap.size + 1]? = some (.cells (mk fun _ => false) 78 (0, 0))) := by
    have := heap_alloc_new (w.alloc (.cells (mk f) 78)) (.cells (mk fun _ => false) 78)
    rwa [show (w.alloc (.cells (mk f) 78)).heap.size = w.heap.size + 1 by simp] at this
  have HZS := hide (mk_size fun _ => false)
  obtain ⟨a, ha⟩ : ∃ a, Hid (a = mk f) := ⟨_, rfl⟩
  obtain ⟨z, hz⟩ : ∃ z, Hid (z = mk fun _ => false) := ⟨_, rfl⟩
  rw [← ha.out] at hs HXS B0 B1 ⊢
  rw [← hz.out] at hzv HXS B0 B1 HZS
  clear hat
  go_enter Try.func36, Try.ntmps36
  go_wp2
  go_loopw [9] (fun x wr => ∃ k : Nat, k ≤ D.length ∧ x = .int .i64 k ∧ Hid (wr.heap[w.heap.size]? = some (.cells (mk (clF (D.map PD.p) f k)) 78 (0, 0))) ∧ Hid (wr.heap[w.heap.size + 1]? = some (.cells z 78 (0, 0))) ∧ Hid (Below w.heap.size w wr)) (fun x _ => D.length - (RowKit.intOf x).toNat)
  case atStart => exact ⟨0, Nat.zero_le _, rfl, by have h0 : a = mk (clF (D.map PD.p) f 0) := ha.out; rw [← h0]; exact B0, B1, HXS⟩
  case round =>
    obtain ⟨k, hk, rfl, BA, BZ, X⟩ := hrel
    rename World => wr
    by_cases hlt : k < D.length
    · have hlt' : (k : Int) < (D.length : Int) := by omega
      have h65 : (k : Int) < 65 := by omega
      have h66 : (k : Int) + 1 < 65 := by omega
      rcases HAT.out with h | ⟨b, off, rfl, hb, hc⟩
      · rw [h] at hlt; simp at hlt
      obtain ⟨p0, p1, p2, p3, _⟩ := hc k hlt
      have hbw : b < wr.heap.size := Nat.lt_of_lt_of_le hb X.out.size
      have r0 := (X.out.cell (p := ⟨b, off + k * 4, none⟩) hb).trans p0
      have r1 := (X.out.cell (p := ⟨b, off + k * 4 + 1, none⟩) hb).trans p1
      have r2 := (X.out.cell (p := ⟨b, off + k * 4 + 2, none⟩) hb).trans p2
      have r3 := (X.out.cell (p := ⟨b, off + k * 4 + 3, none⟩) hb).trans p3
      have HY := hide (fun h1 h2 => clF_yes (D := D) (f := f) (k := k) hlt h1 h2)
      have HN := hide (fun h1 => clF_no (D := D) (f := f) (k := k) hlt h1)
      have HMN := hide (fun w => many_any D[k].p.kind D[k].p.b D[k].p.no D[k].so D[k].p.set.length D[k].sc w)
      generalize D[k].p.kind = kd at *
      generalize D[k].p.b = kb at *
      generalize D[k].p.no = kn at *
      generalize D[k].p.set.length = kl at *
      generalize D[k].so = ks at *
      generalize D[k].sc = kc at *
      have X4 := hide (al (Below.refl wr.heap.size wr) (.cells #[.int .i64 kd, .int .i64 kb, .bool kn, .slice ks kl kc] 44))
      have BA4 := hide ((X4.out.block _ (lt_of_block BA.out)).trans BA.out)
      have c0 : (wr.alloc (.cells #[.int .i64 kd, .int .i64 kb, .bool kn, .slice ks kl kc] 44)).cell? ⟨w.heap.size, k, none⟩ = some (.bool (clF (D.map PD.p) f k k)) := by rw [cell_of_row _ _ _ _ _ _ BA4.out]; exact mk_get _ _ (by omega)
      clear hc p0 p1 p2 p3
      cases hf : clF (D.map PD.p) f k k with
      | false =>
        have HE := hide (HN.out (by rw [hf, Bool.false_and]))
        rw [hf] at c0
        go_wp2
        go_roundw
        case rel => exact ⟨k + 1, by omega, by go_num, by unfold Hid; rw [HE.out]; exact BA4.out, (X4.out.block _ (lt_of_block BZ.out)).trans BZ.out, bt X.out X4.out (Nat.le_refl _)⟩
        case measure => simp [RowKit.intOf]; omega
      | true =>
        rw [hf] at c0
        cases hm : manyK kd with
        | false =>
          have HE := hide (HN.out (by rw [hm, Bool.and_false]))
          rw [hm] at HMN
          go_wp2_with (go_at_call 46; refine (HMN.out _).mono ?_; rintro e w5 ⟨rfl, x5⟩; have X5 := hide (bt X4.out x5 (Nat.le_refl _)); clear x5)
          go_roundw
          case rel => exact ⟨k + 1, by omega, by go_num, by unfold Hid; rw [HE.out]; exact (X5.out.block _ (lt_of_block BA.out)).trans BA.out, (X5.out.block _ (lt_of_block BZ.out)).trans BZ.out, bt X.out X5.out (Nat.le_refl _)⟩
          case measure => simp [RowKit.intOf]; omega
        | true =>
          have HE := hide (HY.out hf hm)
          rw [hm] at HMN
          go_wp2_with (go_at_call 46; refine (HMN.out _).mono ?_; rintro e w5 ⟨rfl, x5⟩; have X5 := hide (bt X4.out x5 (Nat.le_refl _)); have BA5 := hide ((X5.out.block _ (lt_of_block BA.out)).trans BA.out); have d1 : w5.cell? ⟨w.heap.size, k + 1, none⟩ = some (.bool (clF (D.map PD.p) f k (k + 1))) := (by rw [cell_of_row _ _ _ _ _ _ BA5.out]; exact mk_get _ _ (by omega)); have g1 := frozen_of_row _ _ (k + 1) _ _ BA5.out; clear x5)
          go_roundw
          case rel =>
            have hk6 : Kept (fun i => i = w.heap.size) w5 (w5.setCell ⟨w.heap.size, k + 1, none⟩ (.bool true)) := Kept.setCell (F := fun i => i = w.heap.size) (p := ⟨w.heap.size, k + 1, none⟩) (Kept.refl _ _) rfl _
            have B5Z := (X5.out.block _ (lt_of_block BZ.out)).trans BZ.out
            refine ⟨k + 1, by omega, by go_num, ?_, (hk6.block _ (lt_of_block B5Z) (by omega)).trans B5Z, ?_⟩
            · unfold Hid
              rw [HE.out, ← mk_set]
              exact block_setCell BA5.out (k + 1) _
            · exact (bt X.out X5.out (Nat.le_refl _)).trans (hk6.below (Nat.le_trans X.out.size X5.out.size) (fun i hi => by omega))
          case measure => simp [RowKit.intOf]; omega
    · have hnl : ¬ (k : Int) < (D.length : Int) := by omega
      have hkl : k = D.length := by omega
      subst hkl
      have HI : Hid ((Try.prog.info? 78).map (·.size) = some (mk (clF (D.map PD.p) f D.length)).size) := by unfold Hid; rw [hsz, mk_size]
      have HZ2 : Hid (z.size = (mk (clF (D.map PD.p) f D.length)).size) := by unfold Hid; rw [HZS.out, mk_size]
      have HAL := hide (mk_all (clF (D.map PD.p) f D.length))
      have HBN := hide (setRow_heap wr (w.heap.size + 1) z (mk (clF (D.map PD.p) f D.length)) 78 (0, 0) BZ.out)
      have HXN := hide (below_setRow X.out (Nat.le_succ _) (mk (clF (D.map PD.p) f D.length)))
      clear hzv hsz hs
      obtain ⟨m, hm⟩ : ∃ m, Hid (m = mk (clF (D.map PD.p) f D.length)) := ⟨_, rfl⟩
      rw [← hm.out] at HI HZ2 HAL HBN HXN BA
      go_wp2_with (first
        | (refine wpList_load_row rfl 78 (.tmp 3) rfl w.heap.size rfl 78 m (0, 0) _ BA.out Try.underlying78 rfl HI.out ?_)
        | (refine wpList_store_row rfl 78 (.tmp 4) (.tmp 25) rfl (w.heap.size + 1) m rfl rfl 78 z BZ.out HI.out HZ2.out HAL.out ?_))
      refine bodyPost_ret (v := .agg m) (results_cell_row rfl _ _ (w.heap.size + 1) 78 m (0, 0) _ rfl HBN.out Try.underlying78 rfl HI.out) rfl ?_
      exact ⟨by rw [hm.out], HXN.out⟩
end Go.Proofs.Ytaiijdnfimclbaa
