/-
  The statement's owned, walked: lists each in a block of its own are its owner's. Condition: few lists, each no longer than 2^33.
-/
import Derived.Test.YtfjifedfenpbbaaDoorOwned
namespace Go.Proofs.YtfjifedfenpbbaaDoor
open Go.RowKit Go.Lib

/-- An append's own row is all that it turns. -/
theorem appKept {w w' : World} {base size n : Nat} {e : TypeId} {v v' : Value} {xs : List Value} (h : AppAt w w' v v') (ho : w.ownsRow base e size v n xs) : Kept (fun k => base ≤ k) w w' := by
  rcases h with ⟨g, a, b, c⟩ | ⟨a, b⟩
  · exact (kept_of_grown c).mono (fun k hk => by cases hk; exact (World.ownsRow.lt ho g a).1)
  · exact Kept.of_below (below_of_grown a)

set_option maxRecDepth 100000 in
set_option maxHeartbeats 2000000 in
theorem owned_any (w : World) (base lb lcap : Nat) (D : List LD) (X : Nat → List Value) (hls : LsAt 44 28 2 w base (.slice (some ⟨lb, 0, none⟩) D.length lcap) D X) (hb : base ≤ w.heap.size) (hD : D.length ≤ 1000) (hn : ∀ i (h : i < D.length), (D[i]).n ≤ 8589934592) :
    Calls Tryd.prog 23 #[.slice (some ⟨lb, 0, none⟩) D.length lcap] w fun e w' => e = .returned (.bool true) ∧ Below base w w' := by
  obtain ⟨i28, hi, hz0, hz1, hz2⟩ : ∃ i, Tryd.prog.info? 28 = some i ∧ i.zero = some (.agg #[.int .i64 0, .int .i64 0]) ∧ i.size = 2 ∧ i.bytes = 16 := info_parts Tryd.info28
  obtain ⟨i44, hj, hy0, hy1, hy2⟩ : ∃ i, Tryd.prog.info? 44 = some i ∧ i.zero = some (.slice none 0 0) ∧ i.size = 1 ∧ i.bytes = 24 := info_parts Tryd.info44
  have M0 : Mkd w base (.slice (some ⟨lb, 0, none⟩) D.length lcap) D 0 0 X w := ⟨hls, fun i' _ h => by omega, fun j h => by omega, Below.refl _ _⟩
  have HN := hide hn
  clear hls hn
  go_enter Tryd.func23, Tryd.ntmps23
  go_wp2
  go_loopw [3] (fun x wr => ∃ i : Nat, i ≤ D.length ∧ x = .int .i64 i ∧ ∃ X, Mkd w base (.slice (some ⟨lb, 0, none⟩) D.length lcap) D i 0 X wr) (fun x _ => D.length - (RowKit.intOf x).toNat)
  case atStart => exact ⟨0, Nat.zero_le _, rfl, X, M0⟩
  case round =>
    obtain ⟨i, hi1, rfl, X1, M1⟩ := hrel
    by_cases hlt : i < D.length
    · have hlt' : (i : Int) < D.length := by omega
      obtain ⟨ai, ci, hv, hpos⟩ := own_shape (M1.ls.each i hlt)
      have hnn := HN.out i hlt
      clear M0
      go_wp2
      go_loopw [4] (fun x wr => ∃ k : Nat, k ≤ (D[i]).n ∧ x = .int .i64 k ∧ ∃ X, Mkd w base (.slice (some ⟨lb, 0, none⟩) D.length lcap) D i k X wr) (fun x _ => (D[i]).n - (RowKit.intOf x).toNat)
      case atStart => exact ⟨0, Nat.zero_le _, rfl, X1, M1⟩
      case round =>
        obtain ⟨k, hk1, rfl, X2, M2⟩ := hrel
        have c0 := own_cell1 M2.ls.row rfl hlt rfl
        rw [hv] at c0
        clear M1
        by_cases hk : k < (D[i]).n
        · obtain ⟨g, rfl⟩ := hpos (by omega)
          obtain ⟨⟨u1, e1⟩, e2, ⟨u2, e3⟩, e4, X3, m3⟩ := M2.step hlt hk hv
          have M3 := hide m3
          generalize (D[i]).n = n at *
          have hk' : (k : Int) < n := by omega
          have fi : IntKind.i64.wrap (-1 - (i : Int)) = -1 - (i : Int) := by simp [IntKind.wrap, IntKind.bits, IntKind.signed]; omega
          clear m3 hv M2
          go_wp2
          go_roundw
          case rel => exact ⟨k + 1, by omega, by go_num, X3, M3.out⟩
          case measure => simp [RowKit.intOf]; omega
        · have h8 : k = (D[i]).n := by omega
          have M3 : Mkd w base (.slice (some ⟨lb, 0, none⟩) D.length lcap) D (i + 1) 0 X2 wr := by rw [h8] at M2; exact M2.next hlt
          have hk' : ¬ (k : Int) < (D[i]).n := by omega
          generalize (D[i]).n = n at *
          clear hv M2 h8
          go_wp2
          go_roundw
          case rel => exact ⟨i + 1, by omega, by go_num, X2, M3⟩
          case measure => simp [RowKit.intOf]; omega
    · have h8 : i = D.length := by omega
      have hlt' : ¬ (i : Int) < D.length := by omega
      rw [h8] at M1
      have G1 := M1.out
      have B1 := hide M1.below
      clear M1 M0 h8
      go_wp2
      go_loopw [5, 6] (fun o x wr => ∃ i : Nat, i ≤ D.length ∧ x = .int .i64 i ∧ ∃ A, GrO 44 28 2 mcP wr base (.slice (some ⟨lb, 0, none⟩) D.length lcap) o D A i ∧ Below base w wr) (fun _ x _ => D.length - (RowKit.intOf x).toNat)
      case atStart => exact ⟨0, Nat.zero_le _, rfl, [], G1, B1.out⟩
      case round =>
        obtain ⟨i, hi1, rfl, A, G2, hb2⟩ := hrel
        have B2 := hide hb2
        clear hb2 G1 B1
        by_cases hlt : i < D.length
        · have hlt' : (i : Int) < D.length := by omega
          have hnn := HN.out i hlt
          have c0 := own_cell1 G2.row rfl hlt rfl
          have G3 := G2.enter hlt
          clear G2
          generalize (D[i]).n = n at *
          generalize (D[i]).v = xv at *
          have fi : IntKind.i64.wrap (-1 - (i : Int)) = -1 - (i : Int) := by simp [IntKind.wrap, IntKind.bits, IntKind.signed]; omega
          go_wp2
          go_loopw [5, 7, 8] (fun o xx q wr => ∃ k : Nat, k ≤ 6 ∧ q = .int .i64 k ∧ ∃ A nx, nx ≤ n + k ∧ Gr 44 28 2 mcP wr base (.slice (some ⟨lb, 0, none⟩) D.length lcap) o D A i k xx nx ∧ Below base w wr) (fun _ _ q _ => 6 - (RowKit.intOf q).toNat)
          case atStart => exact ⟨0, Nat.zero_le _, rfl, A, n, Nat.le_refl _, G3, B2.out⟩
          case round =>
            obtain ⟨k, hk1, rfl, A4, nx, hnx, G4, hb4⟩ := hrel
            clear G3 B2 c0
            by_cases hk : k < 6
            · have hk' : (k : Int) < 6 := by omega
              obtain ⟨ax, cx, hx, _⟩ := own_shape G4.own
              subst hx
              have hlen := G4.len
              have HG5 := hide (G4.below (al (Below.refl _ _) (.cells #[.slice ax nx cx] 44)))
              have HB5 := hide (hb4.alloc (Nat.le_trans hb hb4.size) (.cells #[.slice ax nx cx] 44))
              have HN5 : Hid (∀ j u, ([.slice ax nx cx] : List Value)[j]? = some u → (wr.alloc (.cells #[.slice ax nx cx] 44)).cell? ((⟨wr.heap.size, 0, none⟩ : Addr).add j) = some u) := by
                intro j u hu
                match j, hu with
                | 0, hu => simp at hu; subst hu; simp [Addr.add]
              have HS5 : Hid (base ≤ (wr.alloc (.cells #[.slice ax nx cx] 44)).heap.size) := Nat.le_trans hb HB5.out.size
              have HNX : Hid (nx + 1 ≤ 8589934600 ∧ A4.length ≤ 6006) := ⟨by omega, by omega⟩
              clear G4 hb4 hlen
              go_wp2_with (first
                | (at_builtin; refine wpList_append_view rfl (.tmp 49) (.tmp 51) 43 rfl base 44 i44 (.slice none 0 0) 1 24 Tryd.underlying43 hj hy0 hy1 hy2 rfl (by decide) _ A4.length (A4.map LD.v) rfl HG5.out.all ⟨wr.heap.size, 0, none⟩ 1 1 [.slice ax nx cx] rfl rfl HN5.out (by simp [Value.oneCell']) (by decide) (by have := HNX.out.2; unfold maxLen; omega) (by have := HNX.out.2; omega) HS5.out ?_; intro v8 w8 h1 h2; have hk8 : Kept (fun k => base ≤ k) (wr.alloc (.cells #[.slice ax nx cx] 44)) w8 := (appKept h2 HG5.out.all); have HG6 := hide ((HG5.out.push mcP_len (by decide) hk h1 h2).below (al (Below.refl _ _) (.cells #[.int .i64 0, .int .i64 (-1 - (i : Int))] 28))); have hb6 := below_base HB5.out hk8 hb; have HB6 := hide (hb6.alloc (Nat.le_trans hb hb6.size) (.cells #[.int .i64 0, .int .i64 (-1 - (i : Int))] 28)); have HN6 := hide (new_cells 28 w8 (0, -1 - (i : Int)) w8.heap.size rfl); clear h1 h2 hk8 hb6 HG5 HB5 HN5)
                | (at_builtin; refine wpList_append_view rfl (.tmp 53) (.tmp 57) 44 rfl base 28 i28 (.agg #[.int .i64 0, .int .i64 0]) 2 16 Tryd.underlying44 hi hz0 hz1 hz2 rfl (by decide) _ nx (rep mcP i nx) rfl HG6.out.own ⟨w8.heap.size, 0, none⟩ 1 1 (mcP i) rfl rfl HN6.out (by simp [mcP, Value.oneCell']) (by decide) (by have := HNX.out.1; unfold maxLen; omega) (by have := HNX.out.1; omega) (Nat.le_trans hb HB6.out.size) ?_; intro v9 w9 h1 h2; have hk9 : Kept (fun k => base ≤ k) (w8.alloc (.cells #[.int .i64 0, .int .i64 (-1 - (i : Int))] 28)) w9 := (appKept h2 HG6.out.own); have HG7 := hide (HG6.out.grow mcP_len (by decide) h1 h2); have HB7 := hide (below_base HB6.out hk9 hb); clear h1 h2 hk9))
              go_roundw
              case rel => exact ⟨k + 1, by omega, by go_num, _, _, by omega, HG7.out, HB7.out⟩
              case measure => simp [RowKit.intOf]; omega
            · have hk' : ¬ (k : Int) < 6 := by omega
              have h6 : k = 6 := by omega
              have G5 : GrO 44 28 2 mcP wr base (.slice (some ⟨lb, 0, none⟩) D.length lcap) u5 D A4 (i + 1) := by rw [h6] at G4; exact G4.leave
              clear G4 h6
              go_wp2
              go_roundw
              case rel => exact ⟨i + 1, by omega, by go_num, A4, G5, hb4⟩
              case measure => simp [RowKit.intOf]; omega
        · have hlt' : ¬ (i : Int) < D.length := by omega
          obtain ⟨ao, co, ho, hpos⟩ := own_shape G2.all
          subst ho
          have hlen := G2.len
          rename World => wE
          go_wp2
          go_loopw [9] (fun x wz => ∃ j : Nat, j ≤ A.length ∧ x = .int .i64 j ∧ wz = wE) (fun x _ => A.length - (RowKit.intOf x).toNat)
          case atStart => exact ⟨0, Nat.zero_le _, rfl, rfl⟩
          case round =>
            obtain ⟨j, hj1, rfl, hwr⟩ := hrel
            have hwr := hwr.symm
            subst hwr
            by_cases hlj : j < A.length
            · have hlj' : (j : Int) < A.length := by omega
              obtain ⟨lo, rfl⟩ := hpos (by omega)
              have c0 := own_cell1 G2.all rfl hlj rfl
              have hvw := (G2.views j hlj).1
              have hnm := hvw.le
              unfold maxLen at hnm
              obtain ⟨av, cv, hv, hcs⟩ := hvw.shape
              rw [hv] at c0
              generalize (A[j]).n = n at *
              have HCS := hide hcs
              have HG2 := hide G2
              have HLJ : Hid (j + 1 ≤ A.length) := hlj
              clear hvw hv hcs G2
              go_wp2
              go_loopw [10] (fun x wz => ∃ k : Nat, k ≤ n ∧ x = .int .i64 k ∧ wz = wE) (fun x _ => n - (RowKit.intOf x).toNat)
              case atStart => exact ⟨0, Nat.zero_le _, rfl, rfl⟩
              case round =>
                obtain ⟨k, hk1, rfl, hwr⟩ := hrel
                have hwr := hwr.symm
                subst hwr
                by_cases hk : k < n
                · have hk' : (k : Int) < n := by omega
                  obtain ⟨g, rfl, hc⟩ := HCS.out.resolve_left (by omega)
                  have c1 := hc (k * 2 + 1) (by omega)
                  rw [show (k * 2 + 1) % 2 = 1 by omega] at c1
                  have e6 : (mcP (j / 6))[1]? = some (.int .i64 (-1 - ((j : Int) / 6))) := by
                    simp [mcP]
                  rw [e6] at c1
                  have fq : IntKind.i64.wrap (-1 - ((j : Int) / 6)) = -1 - ((j : Int) / 6) := by simp [IntKind.wrap, IntKind.bits, IntKind.signed]; omega
                  clear hc e6
                  go_wp2
                  go_roundw
                  case rel => exact ⟨k + 1, by omega, by go_num, by first | rfl | trivial⟩
                  case measure => simp [RowKit.intOf]; omega
                · have hk' : ¬ (k : Int) < n := by omega
                  go_wp2
                  go_roundw
                  case rel => exact ⟨j + 1, HLJ.out, by go_num, by first | rfl | trivial⟩
                  case measure => have := HLJ.out; simp [RowKit.intOf]; omega
            · have hlj' : ¬ (j : Int) < A.length := by omega
              go_wp2
              go_ret
              exact ⟨rfl, B2.out⟩
end Go.Proofs.YtfjifedfenpbbaaDoor
