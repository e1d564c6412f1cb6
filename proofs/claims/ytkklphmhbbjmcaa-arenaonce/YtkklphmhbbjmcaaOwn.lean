/-
  The statement's owned, walked: lists each in a block of its own are its owner's; nothing else is written. Condition: at most two million lists, each no longer than 256.
-/
import Derived.Test.YtkklphmhbbjmcaaStb
import Derived.Test.YtkklphmhbbjmcaaMkQ
namespace Go.Proofs.Ytkklphmhbbjmcaa
open Go.RowKit Go.Lib

def mcI (i : Nat) : List Value := [.int .i64 (-5 - (i : Int))]
theorem mcI_len (i : Nat) : (mcI i).length = 1 := rfl
theorem appB {w w' : World} {v v' : Value} (h : AppAt w w' v v') : ∀ k, v'.ownBlock = some k → v.ownBlock = some k ∨ w.heap.size ≤ k := fun k hk => by
  rcases h with ⟨g, p1, p2, _⟩ | ⟨_, p2⟩
  · rw [p2] at hk
    exact .inl (p1.trans hk)
  · exact .inr (p2 k hk)
/-- All that was there, but for lists of D, is as it was. -/
def KpL (D : List LD) (w w' : World) : Prop := Kept (fun k => FutL D 0 k) w w'
theorem KpL.next {D : List LD} {w a b : World} {F : Nat → Prop} (h : KpL D w a) (k : Kept F a b) (hF : ∀ k, F k → FutL D 0 k ∨ w.heap.size ≤ k) : KpL D w b :=
  Kept.trans_new h k (fun i hi hf => (hF i hf).resolve_right (by omega))
theorem KpL.below {D : List LD} {w a b : World} (h : KpL D w a) (y : Below a.heap.size a b) : KpL D w b := Kept.trans h (Kept.of_below y)
set_option maxRecDepth 100000 in
set_option maxHeartbeats 4000000 in
theorem owned_any {w : World} {base wb : Nat} {sv lv : Value} {D : List LD} {X : Nat → List Value} (h : Wd w base wb sv lv D X) (hb : base ≤ w.heap.size) (hD : D.length ≤ 2000000) :
    Calls Try.prog 9 #[.pointer (some ⟨wb, 0, none⟩)] w fun e w' => e = .returned (.bool true) ∧ KpL D w w' := by
  obtain ⟨i3, hi3, hz30, hz31, hz32⟩ := info_parts Try.info3
  obtain ⟨i22, hi22, hy0, hy1, hy2⟩ := info_parts (show (Try.prog.info? 22).map (fun i => (i.zero, i.size, i.bytes)) = some (some (.slice none 0 0), 1, 24) by kernel_rfl)
  obtain ⟨la, lc, hlv, hlp⟩ := own_shape h.ls.row
  subst hlv
  have HLP := hide hlp
  have HWB : Hid (∀ V, KpL D w V → V.cell? ⟨wb, 1, none⟩ = some (.slice la D.length lc)) := fun V k => by
    have hwn : ¬ FutL D 0 wb := fun ⟨i, hi, _, hk⟩ => by
      obtain ⟨cs, h5⟩ := own_ty (h.ls.each i hi) _ hk
      exact blocks_ne h.blk h5 (by decide) rfl
    exact (cell_two ((k.block wb (lt_of_block h.blk) hwn).trans h.blk)).2
  have HN : Hid (∀ i (hi : i < D.length), (D[i]).n ≤ 256) := fun i hi => h.few _ (List.getElem_mem hi)
  have M0 := hide (Mkg.start (mc := mcI) h.ls)
  clear h hlp
  go_enter Try.func9, Try.ntmps9
  go_wp2
  go_loopw [3] (fun y wr => ∃ i : Nat, i ≤ D.length ∧ y = .int .i64 i ∧ ∃ X, Hid (Mkg 22 3 1 mcI w base (.slice la D.length lc) D i 0 X wr)) (fun y _ => D.length - (RowKit.intOf y).toNat)
  case atStart => exact ⟨0, Nat.zero_le _, rfl, X, M0⟩
  case round =>
    obtain ⟨i, hi1, rfl, X1, M1⟩ := hrel
    clear M0
    have c1 := HWB.out wr M1.out.kd
    by_cases hlt : i < D.length
    · have hlt' : (i : Int) < D.length := by omega
      obtain ⟨lb, hlb⟩ := HLP.out (by omega)
      subst hlb
      have hnn := HN.out i hlt
      obtain ⟨ai, ci, hv, hpos⟩ := own_shape (M1.out.ls.each i hlt)
      have HV := hide hv
      have HPO := hide hpos
      clear hv hpos
      go_upto_block 2 with fail
      clear c1
      go_wp2
      go_loopw [4] (fun y wz => ∃ k : Nat, k ≤ (D[i]).n ∧ y = .int .i64 k ∧ ∃ X, Hid (Mkg 22 3 1 mcI w base (.slice (some ⟨lb, 0, none⟩) D.length lc) D i k X wz)) (fun y _ => (D[i]).n - (RowKit.intOf y).toNat)
      case atStart => exact ⟨0, Nat.zero_le _, rfl, X1, M1⟩
      case round =>
        rename World => wz
        obtain ⟨k, hk1, rfl, X2, M2⟩ := hrel
        clear M1
        have c1 := HWB.out wz M2.out.kd
        have c0 := own_cell1 M2.out.ls.row rfl hlt rfl
        rw [HV.out] at c0
        by_cases hk : k < (D[i]).n
        · obtain ⟨g, hg⟩ := HPO.out (by omega)
          subst hg
          have hh := M2.out.ls.each i hlt
          rw [HV.out] at hh
          have hl := hh.1
          obtain ⟨h3, h4⟩ := hh.stored k (.int .i64 (-5 - (i : Int)))
          obtain ⟨u, e1⟩ : ∃ u, wz.cell? ⟨g, k, none⟩ = some u := ⟨(X2 i)[k]'(by omega), by rw [hh.cellAt k (by omega)]; exact List.getElem?_eq_getElem _⟩
          have e2 := hh.frozenAt (g := g) k
          obtain ⟨X3, m3⟩ := M2.out.step mcI_len (by decide) hlt hk (w' := wz.setCell ⟨g, k, none⟩ (.int .i64 (-5 - (i : Int)))) (by rw [HV.out, Nat.mul_one]; exact h3) (by rw [HV.out]; exact kept_of_grown h4) hb
          have M3 := hide m3
          have hk' : (k : Int) < ((D[i]).n : Int) := by omega
          have fi : IntKind.i64.wrap (-5 - (i : Int)) = -5 - (i : Int) := by simp [IntKind.wrap, IntKind.bits, IntKind.signed]; omega
          clear m3 M2 h3 h4 hh hl
          generalize (D[i]).n = n at *
          go_wp2
          go_roundw
          case rel => exact ⟨k + 1, by omega, by go_num, X3, M3⟩
          case measure => simp [RowKit.intOf]; omega
        · have h8 : k = (D[i]).n := by omega
          have M3 : Hid (Mkg 22 3 1 mcI w base (.slice (some ⟨lb, 0, none⟩) D.length lc) D (i + 1) 0 X2 wz) := by have := M2.out; rw [h8] at this; exact Mkg.next mcI_len hlt this
          have hk' : ¬ (k : Int) < ((D[i]).n : Int) := by omega
          clear M2 h8
          generalize (D[i]).n = n at *
          go_wp2
          go_roundw
          case rel => exact ⟨i + 1, by omega, by go_num, X2, M3⟩
          case measure => simp [RowKit.intOf]; omega
    · have hlt' : ¬ (i : Int) < D.length := by omega
      have h8 : i = D.length := by omega
      have G1 : Hid (GrO 22 3 1 mcI wr base (.slice la D.length lc) (.slice none 0 0) D [] 0) := GrO.start (by have := M1.out; rw [h8] at this; exact this.out)
      have K1 : Hid (KpL D w wr) := M1.out.kd
      clear M1 h8
      go_upto_block 4 with fail
      clear c1
      go_wp2
      go_loopw [5, 6] (fun o y wz => ∃ i : Nat, i ≤ D.length ∧ y = .int .i64 i ∧ ∃ A, Hid (GrO 22 3 1 mcI wz base (.slice la D.length lc) o D A i) ∧ Hid (KpL D w wz) ∧ Hid (∀ k, o.ownBlock = some k → w.heap.size ≤ k)) (fun _ y _ => D.length - (RowKit.intOf y).toNat)
      case atStart => exact ⟨0, Nat.zero_le _, rfl, [], G1, K1, fun k hk => by cases hk⟩
      case round =>
        rename World => wz
        obtain ⟨i, hi1, rfl, A, G2, K2, Q2⟩ := hrel
        clear G1 K1
        have c1 := HWB.out wz K2.out
        by_cases hlt : i < D.length
        · have hlt' : (i : Int) < D.length := by omega
          obtain ⟨lb, hlb⟩ := HLP.out (by omega)
          subst hlb
          have hnn := HN.out i hlt
          have c0 := own_cell1 G2.out.row rfl hlt rfl
          have G3 := hide (G2.out.enter hlt)
          have U3 : Hid (∀ k, (D[i]).v.ownBlock = some k → FutL D 0 k ∨ w.heap.size ≤ k) := fun k hk => .inl ⟨i, hlt, Nat.zero_le _, hk⟩
          clear G2
          generalize (D[i]).n = n at *
          generalize (D[i]).v = xv at *
          have fi : IntKind.i64.wrap (-5 - (i : Int)) = -5 - (i : Int) := by simp [IntKind.wrap, IntKind.bits, IntKind.signed]; omega
          go_upto_block 6 with fail
          clear c0 c1
          go_wp2
          go_loopw [5, 7, 8] (fun o xx q wy => ∃ k : Nat, k ≤ 6 ∧ q = .int .i64 k ∧ ∃ A nx, nx ≤ n + k ∧ Hid (Gr 22 3 1 mcI wy base (.slice (some ⟨lb, 0, none⟩) D.length lc) o D A i k xx nx) ∧ Hid (KpL D w wy) ∧ Hid (∀ k, o.ownBlock = some k → w.heap.size ≤ k) ∧ Hid (∀ k, xx.ownBlock = some k → FutL D 0 k ∨ w.heap.size ≤ k)) (fun _ _ q _ => 6 - (RowKit.intOf q).toNat)
          case atStart => exact ⟨0, Nat.zero_le _, rfl, A, n, Nat.le_refl _, G3, K2, Q2, U3⟩
          case round =>
            rename World => wy
            obtain ⟨k, hk1, rfl, A4, nx, hnx, G4, K4, Q4, U4⟩ := hrel
            clear G3 K2 Q2 U3
            by_cases hk : k < 6
            · have hk' : (k : Int) < 6 := by omega
              obtain ⟨ax, cx, hx, _⟩ := own_shape G4.out.own
              subst hx
              have hlen := G4.out.len
              have hbK := Nat.le_trans hb K4.out.size
              have y5 : Below wy.heap.size wy (wy.alloc (.cells #[.slice ax nx cx] 22)) := al (Below.refl _ _) _
              have HG5 := hide (G4.out.below y5)
              have HK5 := hide (K4.out.below y5)
              have HS5 : Hid (base ≤ (wy.alloc (.cells #[.slice ax nx cx] 22)).heap.size) := Nat.le_trans hbK y5.size
              have HNX : Hid (nx + 1 ≤ 1000 ∧ A4.length ≤ 12000006) := ⟨by omega, by omega⟩
              clear G4 K4 hlen y5
              go_wp2_with (first
                | (at_builtin; refine wpList_append_view rfl (.tmp 63) (.tmp 65) 36 rfl base 22 i22 (.slice none 0 0) 1 24 Try.underlying36 hi22 hy0 hy1 hy2 rfl (by decide) _ A4.length (A4.map LD.v) rfl HG5.out.all ⟨wy.heap.size, 0, none⟩ 1 1 [.slice ax nx cx] rfl rfl (one_new wy _ _) (by simp [Value.oneCell']) (by decide) (by have := HNX.out.2; unfold maxLen; omega) (by have := HNX.out.2; omega) HS5.out ?_; intro v8 w8 h1 h2; obtain ⟨a8, c8, hv8, _⟩ := own_shape h1; subst hv8; have Q8 : Hid (∀ k, (Value.slice a8 (A4.length + 1) c8).ownBlock = some k → w.heap.size ≤ k) := (fun k hk => (appB h2 k hk).elim (Q4.out k) (Nat.le_trans HK5.out.size)); have HG6 := hide (HG5.out.push mcI_len (by decide) hk h1 h2); have HK6 : Hid (KpL D w w8) := HK5.out.next (appK h2) (fun k hk => .inr (Q4.out k hk)); have y6 : Below w8.heap.size w8 (w8.alloc (.cells #[.int .i64 (-5 - (i : Int))] 3)) := (al (Below.refl _ _) _); have HG7 := hide (HG6.out.below y6); have HK7 := hide (HK6.out.below y6); have HS7 : Hid (base ≤ (w8.alloc (.cells #[.int .i64 (-5 - (i : Int))] 3)).heap.size) := (Nat.le_trans hb HK7.out.size); clear h1 h2 HG5 HK5 HG6 HK6 y6 HS5)
                | (at_builtin; refine wpList_append_view rfl (.tmp 67) (.tmp 70) 22 rfl base 3 i3 (.int .i64 0) 1 8 Try.underlying22 hi3 hz30 hz31 hz32 rfl (by decide) _ nx (rep mcI i nx) rfl HG7.out.own ⟨w8.heap.size, 0, none⟩ 1 1 (mcI i) rfl rfl (one_new w8 _ _) (by simp [mcI, Value.oneCell']) (by decide) (by have := HNX.out.1; unfold maxLen; omega) (by have := HNX.out.1; omega) HS7.out ?_; intro v9 w9 h1 h2; obtain ⟨a9, c9, hv9, _⟩ := own_shape h1; subst hv9; have U9 : Hid (∀ k, (Value.slice a9 (nx + 1) c9).ownBlock = some k → FutL D 0 k ∨ w.heap.size ≤ k) := (fun k hk => (appB h2 k hk).elim (U4.out k) (fun h => .inr (Nat.le_trans HK7.out.size h))); have HG9 := hide (HG7.out.grow mcI_len (by decide) h1 h2); have HK9 : Hid (KpL D w w9) := HK7.out.next (appK h2) (fun k hk => U4.out k hk); clear h1 h2))
              go_roundw
              case rel => exact ⟨k + 1, by omega, by go_num, _, _, by omega, HG9, HK9, Q8, U9⟩
              case measure => simp [RowKit.intOf]; omega
            · have hk' : ¬ (k : Int) < 6 := by omega
              obtain rfl : k = 6 := by omega
              have G5 := hide G4.out.leave
              clear G4
              go_wp2
              go_roundw
              case rel => exact ⟨i + 1, by omega, by go_num, A4, G5, K4, Q4⟩
              case measure => simp [RowKit.intOf]; omega
        · have hlt' : ¬ (i : Int) < D.length := by omega
          obtain ⟨ao, co, ho, hpos⟩ := own_shape G2.out.all
          subst ho
          have hlen := G2.out.len
          have HPO := hide hpos
          clear hpos
          go_upto_block 8 with fail
          clear c1
          go_wp2
          go_loopw [9] (fun y wq => ∃ j : Nat, j ≤ A.length ∧ y = .int .i64 j ∧ Hid (wq = wz)) (fun y _ => A.length - (RowKit.intOf y).toNat)
          case atStart => exact ⟨0, Nat.zero_le _, rfl, rfl⟩
          case round =>
            rename World => wq
            obtain ⟨j, hj1, rfl, HW⟩ := hrel
            have hw := HW.out
            clear HW
            subst hw
            by_cases hlj : j < A.length
            · have hlj' : (j : Int) < A.length := by omega
              obtain ⟨lo, hlo⟩ := HPO.out (by omega)
              subst hlo
              have c0 := own_cell1 G2.out.all rfl hlj rfl
              have hvw := (G2.out.views j hlj).1
              have hnm := hvw.le
              unfold maxLen at hnm
              obtain ⟨av, cv, hv, hcs⟩ := hvw.shape
              rw [hv] at c0
              generalize (A[j]).n = n at *
              have HCS := hide hcs
              have HLJ : Hid (j + 1 ≤ A.length) := hlj
              clear hvw hv hcs
              go_wp2
              go_loopw [10] (fun y wp => ∃ k : Nat, k ≤ n ∧ y = .int .i64 k ∧ Hid (wp = wq)) (fun y _ => n - (RowKit.intOf y).toNat)
              case atStart => exact ⟨0, Nat.zero_le _, rfl, rfl⟩
              case round =>
                rename World => wp
                obtain ⟨k, hk1, rfl, HW⟩ := hrel
                have hw := HW.out.symm
                clear HW
                subst hw
                by_cases hk : k < n
                · have hk' : (k : Int) < n := by omega
                  obtain ⟨g, hg, hc⟩ := HCS.out.resolve_left (by omega)
                  subst hg
                  have d1 := hc k (by omega)
                  rw [Nat.mod_one] at d1
                  have e6 : (mcI (j / 6))[0]? = some (.int .i64 (-5 - ((j : Int) / 6))) := by simp [mcI]
                  rw [e6] at d1
                  have hq6 : (j : Int).tdiv 6 = (j : Int) / 6 := by rw [Int.tdiv_eq_ediv_of_nonneg (by omega)]
                  have fq : IntKind.i64.wrap (-5 - ((j : Int) / 6)) = -5 - ((j : Int) / 6) := by simp [IntKind.wrap, IntKind.bits, IntKind.signed]; omega
                  clear hc e6
                  go_wp2
                  go_roundw
                  case rel => exact ⟨k + 1, by omega, by go_num, by first | exact rfl | exact trivial⟩
                  case measure => simp [RowKit.intOf]; omega
                · have hk' : ¬ (k : Int) < n := by omega
                  go_wp2
                  go_roundw
                  case rel => exact ⟨j + 1, HLJ.out, by go_num, by first | exact rfl | exact trivial⟩
                  case measure => have := HLJ.out; simp [RowKit.intOf]; omega
            · have hlj' : ¬ (j : Int) < A.length := by omega
              go_wp2
              go_ret
              exact ⟨rfl, K2.out⟩
end Go.Proofs.Ytkklphmhbbjmcaa
