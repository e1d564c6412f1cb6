/-
  The book's still by its contract: what is untouched reads as it must; then it is marked and grown, and all that were ever read as their owner wrote them. Condition: few lists.
-/
import Derived.Test.YtnfdjbaafiifnaaP43
import Derived.Test.YtnfdjbaafiifnaaP21
import Derived.Test.YtnfdjbaafiifnaaP33
import Derived.Test.YtnfdjbaafiifnaaP34
import Derived.Deep.DeepCutAuto
import Derived.Deep.CutBlock
namespace Go.Proofs.Ytnfdjbaafiifnaa
open Go.RowKit Go.Lib

theorem Try.info44s : (Try.prog.info? 44).map (fun i => (i.zero, i.size, i.bytes)) = some (some (.slice none 0 0), 1, 24) := by kernel_rfl
theorem bk_cells {w : World} {bb : Nat} {a b c d : Value} (h : w.heap[bb]? = some (.cells #[a, b, c, d] 28 (0, 0))) : w.cell? ⟨bb, 0, none⟩ = some a ∧ w.cell? ⟨bb, 1, none⟩ = some b ∧ w.cell? ⟨bb, 2, none⟩ = some c ∧ w.cell? ⟨bb, 3, none⟩ = some d :=
  ⟨by rw [cell_of_row _ _ _ _ _ _ h]; rfl, by rw [cell_of_row _ _ _ _ _ _ h]; rfl, by rw [cell_of_row _ _ _ _ _ _ h]; rfl, by rw [cell_of_row _ _ _ _ _ _ h]; rfl⟩
theorem bk_set0 {w : World} {bb : Nat} {a b c d : Value} (h : w.heap[bb]? = some (.cells #[a, b, c, d] 28 (0, 0))) (v : Value) : (w.setCell ⟨bb, 0, none⟩ v).heap[bb]? = some (.cells #[v, b, c, d] 28 (0, 0)) := by
  have := block_setCell h 0 v
  simpa using this
theorem bk_set1 {w : World} {bb : Nat} {a b c d : Value} (h : w.heap[bb]? = some (.cells #[a, b, c, d] 28 (0, 0))) (v : Value) : (w.setCell ⟨bb, 1, none⟩ v).heap[bb]? = some (.cells #[a, v, c, d] 28 (0, 0)) := by
  have := block_setCell h 1 v
  simpa using this
theorem bk_set2 {w : World} {bb : Nat} {a b c d : Value} (h : w.heap[bb]? = some (.cells #[a, b, c, d] 28 (0, 0))) (v : Value) : (w.setCell ⟨bb, 2, none⟩ v).heap[bb]? = some (.cells #[a, b, v, d] 28 (0, 0)) := by
  have := block_setCell h 2 v
  simpa using this
theorem bk_set3 {w : World} {bb : Nat} {a b c d : Value} (h : w.heap[bb]? = some (.cells #[a, b, c, d] 28 (0, 0))) (v : Value) : (w.setCell ⟨bb, 3, none⟩ v).heap[bb]? = some (.cells #[a, b, c, v] 28 (0, 0)) := by
  have := block_setCell h 3 v
  simpa using this
theorem bk_app {w w' : World} {bb : Nat} {cs : Array Value} {f : Nat × Nat} {base size m : Nat} {e : TypeId} {v v' : Value} {xs : List Value} (h : w.heap[bb]? = some (.cells cs 28 f)) (h2 : AppAt w w' v v') (ho : w.ownsRow base e size v m xs) (he : e ≠ 28) : w'.heap[bb]? = some (.cells cs 28 f) :=
  ((appK h2).block bb (lt_of_block h) (fun hk => by
    obtain ⟨cs', h1⟩ := own_ty ho bb hk
    rw [h] at h1
    simp at h1
    exact he h1.2.1.symm)).trans h
theorem bk_keep {w : World} {bb : Nat} {cs : Array Value} {f : Nat × Nat} (h : w.heap[bb]? = some (.cells cs 28 f)) (j : Nat) (v : Value) : KeepQ (fun t => t = 28) w (w.setCell ⟨bb, j, none⟩ v) :=
  KeepQ.kept (Kept.setCell (F := fun k => k = bb) (p := ⟨bb, j, none⟩) (Kept.refl _ _) rfl v) (fun k hk => ⟨cs, 28, f, by subst hk; exact h, rfl⟩)
theorem BkK.set {base : Nat} {w a : World} {bb : Nat} {cs : Array Value} {f : Nat × Nat} (k : BkK base w a) (h : a.heap[bb]? = some (.cells cs 28 f)) (hb : base ≤ bb) (j : Nat) (v : Value) : BkK base w (a.setCell ⟨bb, j, none⟩ v) :=
  k.trans (BkK.of_kept (Kept.setCell (F := fun k => k = bb) (p := ⟨bb, j, none⟩) (Kept.refl _ _) rfl v) (fun k hk => ⟨by subst hk; exact hb, cs, 28, f, by subst hk; exact h, .inl rfl⟩))
theorem Mkg.next' {TS T : TypeId} {sz : Nat} {mc : Nat → List Value} {w0 w w' : World} {base : Nat} {l : Value} {D : List LD} {i k : Nat} {X : Nat → List Value} (h : Mkg TS T sz mc w0 base l D i k X w) (hb : base ≤ w0.heap.size) (x : Below w.heap.size w w') : Mkg TS T sz mc w0 base l D i k X w' :=
  ⟨h.ls.below x, h.done, h.part, h.below.trans (x.mono (Nat.le_trans hb h.below.size)), h.keep.trans (KeepQ.below x), h.kd.trans (Kept.of_below x)⟩
theorem one_new44 (w : World) (x : Value) (j : Nat) (u : Value) (hu : ([x] : List Value)[j]? = some u) : (w.alloc (.cells #[x] 44)).cell? ((⟨w.heap.size, 0, none⟩ : Addr).add j) = some u := by
  match j, hu with
  | 0, hu => simp at hu; subst hu; simp [Addr.add]
set_option maxRecDepth 100000 in
set_option maxHeartbeats 4000000 in
theorem still_any (w : World) (base bb : Nat) (fr wa alv : Value) (n : Nat) (FD WD A : List LD) (RR : Nat → List Rw) (h : BkAt w base bb fr wa alv n FD WD A RR) (hW : WD.length = FD.length) (hN : n + FD.length ≤ 4294967296) :
    Calls Try.prog 13 #[.pointer (some ⟨bb, 0, none⟩)] w fun e w' => e = .returned (.bool true) ∧ (∃ al' A', BkAt w' base bb (.slice none 0 0) (.slice none 0 0) al' (n + FD.length) [] [] A' (fun _ => [])) ∧ BkK base w w' := by
  obtain ⟨i65, hi65, hz0, hz1, hz2⟩ := info_parts Try.info65
  obtain ⟨i44, hi44, hy0, hy1, hy2⟩ := info_parts Try.info44s
  obtain ⟨af, cf, rfl, hpf⟩ := own_shape h.rest.ls.row
  obtain ⟨aw, cw, rfl, hpw⟩ := own_shape h.rest.wr
  have HB0 := hide h
  have HW := hide hW
  have HNN := hide hN
  have HPF := hide hpf
  have HPW := hide hpw
  have HBB := hide h.bas
  have hFD : FD.length ≤ 4294967296 := by omega
  clear h hW hN hpf hpw
  go_enter Try.func13, Try.ntmps13
  go_upto_block 0 with fail
  go_cut [3, 4] (fun _ _ wx => Hid (Below w.heap.size w wx))
  case first =>
    go_wp2
    go_loopw [3] (fun x wq => ∃ j : Nat, j ≤ FD.length ∧ x = .int .i64 j ∧ Hid (Below w.heap.size w wq)) (fun x _ => FD.length - (RowKit.intOf x).toNat)
    case atStart => exact ⟨0, Nat.zero_le _, rfl, Below.refl _ _⟩
    case round =>
      obtain ⟨j, hj1, rfl, HQ⟩ := hrel
      have hB := HB0.out.below HQ.out
      obtain ⟨c0, c1, -, -⟩ := bk_cells hB.blk
      by_cases hjl : j < FD.length
      · have hjl' : (j : Int) < FD.length := by omega
        have hjw : j < WD.length := by rw [HW.out]; exact hjl
        have hjw' : (j : Int) < WD.length := by omega
        obtain ⟨lb, rfl⟩ := HPF.out (by omega)
        obtain ⟨eb, rfl⟩ := HPW.out (by omega)
        have c4 := own_cell1 hB.rest.ls.row rfl hjl rfl
        have c5 := own_cell1 hB.rest.wr rfl hjw rfl
        have o1 := hB.rest.ls.each j hjl
        rw [hB.rest.fn j hjl] at o1
        obtain ⟨a1, k1, e1, _, r1⟩ := own_cells3 o1
        obtain ⟨a2, k2, e2, _, r2⟩ := own_cells3 (hB.rest.wo j hjw)
        rw [e1] at c4
        rw [e2] at c5
        have hcl := hB.rest.few j
        have hlo : lb < wr.heap.size := (World.ownsRow.lt hB.rest.ls.row lb rfl).2
        have hle : eb < wr.heap.size := (World.ownsRow.lt hB.rest.wr eb rfl).2
        have hbl : bb < wr.heap.size := lt_of_block hB.blk
        have hsp : ∀ (W : World) (x : Below wr.heap.size wr W), Calls Try.prog 15 #[.slice a1 (RR j).length k1, .slice a2 (RR j).length k2] W fun e w' => e = .returned (.bool true) ∧ Below W.heap.size W w' := fun W x => by
          have := rowsSame_any a1 a2 k1 k2 (zr (RR j)) W (by rw [zr_length]; omega) (r1.below x) (r2.below x)
          rwa [zr_length] at this
        have HSP := hide hsp
        have HDr : Hid (Below wr.heap.size wr wr.drew) := (Below.refl _ _).drew
        clear o1 hB hsp r1 r2 e1 e2
        generalize (RR j).length = m at *
        go_upto_region 4 with fail
        refine wp_region_quiet (C := fun w' => Below wr.heap.size wr w') (by kernel_rfl) (by kernel_rfl) HDr.out ?_
        refine QW.out (l := _ :: _) ?_
        iterate 14 (refine QW.take (by rfl) ?_; apply Exists.intro; refine ⟨fun w' hw' => ?_, ?_⟩; (· (have g1 := (hw'.cell (p := ⟨lb, j, none⟩) hlo).trans c4; have g2 := (hw'.cell (p := ⟨eb, j, none⟩) hle).trans c5; have g3 := (hw'.cell (p := ⟨bb, 0, none⟩) hbl).trans c0; have g4 := (hw'.cell (p := ⟨bb, 1, none⟩) hbl).trans c1; go_simp; first | done | rfl)); try simp only [Act.put, List.setIfInBounds_toArray, List.set_cons_zero, List.set_cons_succ])
        iterate 1 (refine QW.take (by rfl) ?_; apply Exists.intro; refine ⟨fun w' hw' => ?_, ?_⟩; (· (go_simp; (refine (HSP.out _ hw').mono ?_; rintro e w2 ⟨rfl, x2⟩; exact ⟨rfl, hw'.trans (x2.mono hw'.size)⟩))); try simp only [Act.put, List.setIfInBounds_toArray, List.set_cons_zero, List.set_cons_succ])
        iterate 1 (refine QW.take (by rfl) ?_; apply Exists.intro; refine ⟨fun w' hw' => ?_, ?_⟩; (· (go_simp; first | done | rfl)); try simp only [Act.put, List.setIfInBounds_toArray, List.set_cons_zero, List.set_cons_succ])
        refine QW.nil ?_
        intro w7 x7
        have X7 := hide (HQ.out.trans (x7.mono HQ.out.size))
        clear x7 c0 c1 c4 c5
        go_wp2
        go_roundw
        case rel => exact ⟨j + 1, by omega, by go_num, X7⟩
        case measure => simp [RowKit.intOf]; omega
      · have hjl' : ¬ (j : Int) < FD.length := by omega
        clear hB
        go_wp2
        go_meet
        exact HQ
  case rest =>
    have HB1 := hide (HB0.out.below hcut.out)
    have K1 : Hid (BkK base w wc) := BkK.of_below hcut.out
    have HWB : Hid (base ≤ wc.heap.size) := Nat.le_trans (Nat.le_trans HB0.out.bas (Nat.le_of_lt (lt_of_block HB0.out.blk))) hcut.out.size
    have HN : Hid (∀ i (h : i < FD.length), (FD[i]).n ≤ 4294967296) := fun i h => by rw [HB1.out.rest.fn i h]; exact HB1.out.rest.few i
    clear hcut HB0
    go_upto_block 2 with fail
    go_cut [5, 6] (fun _ _ wx => ∃ X, Hid (Mkg 44 65 3 (fun i => mcR (n + i)) wc base (.slice af FD.length cf) FD FD.length 0 X wx))
    case first =>
      go_wp2
      go_loopw [5] (fun x wr => ∃ i : Nat, i ≤ FD.length ∧ x = .int .i64 i ∧ ∃ X, Hid (Mkg 44 65 3 (fun i => mcR (n + i)) wc base (.slice af FD.length cf) FD i 0 X wr)) (fun x _ => FD.length - (RowKit.intOf x).toNat)
      case atStart => exact ⟨0, Nat.zero_le _, rfl, _, hide (Mkg.start HB1.out.rest.ls)⟩
      case round =>
        obtain ⟨i, hi1, rfl, X1, M1⟩ := hrel
        have hbk := M1.out.keep bb _ _ _ (by decide) HB1.out.blk
        obtain ⟨c0, -, -, -⟩ := bk_cells hbk
        by_cases hlt : i < FD.length
        · have hlt' : (i : Int) < FD.length := by omega
          obtain ⟨lb, rfl⟩ := HPF.out (by omega)
          obtain ⟨ai, ci, hv, hpos⟩ := own_shape (M1.out.ls.each i hlt)
          have hnn := HN.out i hlt
          have HQI : Hid (n + i ≤ 4294967296) := by have := HNN.out; show n + i ≤ 4294967296; omega
          clear hbk
          have HV := hide hv
          have HPO := hide hpos
          clear hv hpos
          go_wp2
          clear c0
          go_loopw [6] (fun x wr => ∃ k : Nat, k ≤ (FD[i]).n ∧ x = .int .i64 k ∧ ∃ X, Hid (Mkg 44 65 3 (fun i => mcR (n + i)) wc base (.slice (some ⟨lb, 0, none⟩) FD.length cf) FD i k X wr)) (fun x _ => (FD[i]).n - (RowKit.intOf x).toNat)
          case atStart => exact ⟨0, Nat.zero_le _, rfl, X1, M1⟩
          case round =>
            obtain ⟨k, hk1, rfl, X2, M2⟩ := hrel
            clear M1
            have hbk := M2.out.keep bb _ _ _ (by decide) HB1.out.blk
            obtain ⟨c0, -, -, c3⟩ := bk_cells hbk
            have c9 := own_cell1 M2.out.ls.row rfl hlt rfl
            rw [HV.out] at c9
            have hlo : lb < wr.heap.size := (World.ownsRow.lt M2.out.ls.row lb rfl).2
            have hbl : bb < wr.heap.size := lt_of_block hbk
            clear hbk
            by_cases hk : k < (FD[i]).n
            · obtain ⟨g, rfl⟩ := HPO.out (by omega)
              have HST := hide (fun (W W' : World) (x : Below wr.heap.size wr W) (h1 : W'.ownsRow base 65 3 (FD[i]).v (FD[i]).n (setL (X2 i) (k * 3) (mcR (n + i)))) (h2 : Kept (fun j => (FD[i]).v.ownBlock = some j) W W') => Mkg.step (TS := 44) (T := 65) (sz := 3) (mc := fun i => mcR (n + i)) (fun _ => rfl) (by decide) (M2.out.next' HWB.out x) hlt hk h1 h2 HWB.out)
              have HOW := hide (fun (W : World) (x : Below wr.heap.size wr W) => own_below (M2.out.ls.each i hlt) x)
              rw [HV.out] at HST HOW
              obtain ⟨q, hq⟩ : ∃ q, q = n + i := ⟨_, rfl⟩
              rw [← hq] at HST HQI
              have fq : IntKind.i64.wrap ((n : Int) + (i : Int)) = (q : Int) := by rw [hq, ← Int.natCast_add]; have := HQI.out; simp [IntKind.wrap, IntKind.bits, IntKind.signed]; omega
              generalize hnm : (FD[i]).n = m at *
              have hk' : (k : Int) < m := by omega
              have HKM : Hid (k < m) := hk
              clear M2 hq HV HPO
              have HRD : Hid (∀ W, Below wr.heap.size wr W → W.cell? ⟨bb, 0, none⟩ = some (.slice (some ⟨lb, 0, none⟩) FD.length cf) ∧ W.cell? ⟨bb, 3, none⟩ = some (.int .i64 n) ∧ W.cell? ⟨lb, i, none⟩ = some (.slice (some ⟨g, 0, none⟩) m ci)) := fun W x => ⟨(x.cell (p := ⟨bb, 0, none⟩) hbl).trans c0, (x.cell (p := ⟨bb, 3, none⟩) hbl).trans c3, (x.cell (p := ⟨lb, i, none⟩) hlo).trans c9⟩
              have HS0 : Hid (Below wr.heap.size wr wr.drew) := (Below.refl _ _).drew
              have HMK := hide (mark_any q (by have := HQI.out; omega) wr.drew)
              go_upto_region 13 with fail
              clear c0 c3 c9
              refine wp_unt (S := fun V => Below wr.heap.size wr V) 16 (by kernel_rfl) ?_
              generalize wr.drew = wd at *
              refine UntH.take (i := 0) (some 59) rfl rfl (by kernel_rfl) (by kernel_rfl) (by kernel_rfl) (by kernel_rfl) (fun _ _ _ _ h => h) (by rfl) HS0.out ?_
              apply Exists.intro
              refine ⟨fun w' hw' => ?_, ?_⟩
              · obtain ⟨q1, q2, q3⟩ := HRD.out w' hw'
                go_simp
                first | done | rfl
              try simp only [Act.put, List.setIfInBounds_toArray, List.set_cons_zero, List.set_cons_succ]
              refine UntH.take (i := 1) (some 60) rfl rfl (by kernel_rfl) (by kernel_rfl) (by kernel_rfl) (by kernel_rfl) (fun _ _ _ _ h => h) (by rfl) HS0.out ?_
              apply Exists.intro
              refine ⟨fun w' hw' => ?_, ?_⟩
              · obtain ⟨q1, q2, q3⟩ := HRD.out w' hw'
                go_simp
                first | done | rfl
              try simp only [Act.put, List.setIfInBounds_toArray, List.set_cons_zero, List.set_cons_succ]
              refine UntH.take (i := 2) (some 61) rfl rfl (by kernel_rfl) (by kernel_rfl) (by kernel_rfl) (by kernel_rfl) (fun _ _ _ _ h => h) (by rfl) HS0.out ?_
              apply Exists.intro
              refine ⟨fun w' hw' => ?_, ?_⟩
              · obtain ⟨q1, q2, q3⟩ := HRD.out w' hw'
                go_simp
                first | done | rfl
              try simp only [Act.put, List.setIfInBounds_toArray, List.set_cons_zero, List.set_cons_succ]
              refine UntH.take (i := 3) (some 62) rfl rfl (by kernel_rfl) (by kernel_rfl) (by kernel_rfl) (by kernel_rfl) (fun _ _ _ _ h => h) (by rfl) HS0.out ?_
              apply Exists.intro
              refine ⟨fun w' hw' => ?_, ?_⟩
              · obtain ⟨q1, q2, q3⟩ := HRD.out w' hw'
                go_simp
                first | done | rfl
              try simp only [Act.put, List.setIfInBounds_toArray, List.set_cons_zero, List.set_cons_succ]
              refine UntH.take (i := 4) (some 63) rfl rfl (by kernel_rfl) (by kernel_rfl) (by kernel_rfl) (by kernel_rfl) (fun _ _ _ _ h => h) (by rfl) HS0.out ?_
              apply Exists.intro
              refine ⟨fun w' hw' => ?_, ?_⟩
              · obtain ⟨q1, q2, q3⟩ := HRD.out w' hw'
                go_simp
                first | done | rfl
              try simp only [Act.put, List.setIfInBounds_toArray, List.set_cons_zero, List.set_cons_succ]
              refine UntH.take (i := 5) (some 64) rfl rfl (by kernel_rfl) (by kernel_rfl) (by kernel_rfl) (by kernel_rfl) (fun _ _ _ _ h => h) (by rfl) HS0.out ?_
              apply Exists.intro
              refine ⟨fun w' hw' => ?_, ?_⟩
              · obtain ⟨q1, q2, q3⟩ := HRD.out w' hw'
                go_simp
                first | done | rfl
              try simp only [Act.put, List.setIfInBounds_toArray, List.set_cons_zero, List.set_cons_succ]
              refine UntH.take (i := 6) (some 65) rfl rfl (by kernel_rfl) (by kernel_rfl) (by kernel_rfl) (by kernel_rfl) (fun _ _ _ _ h => h) (by rfl) HS0.out ?_
              apply Exists.intro
              refine ⟨fun w' hw' => ?_, ?_⟩
              · obtain ⟨q1, q2, q3⟩ := HRD.out w' hw'
                go_simp
                first | done | rfl
              try simp only [Act.put, List.setIfInBounds_toArray, List.set_cons_zero, List.set_cons_succ]
              refine UntH.take (i := 7) (some 66) rfl rfl (by kernel_rfl) (by kernel_rfl) (by kernel_rfl) (by kernel_rfl) (fun _ _ _ _ h => h) (by rfl) HS0.out ?_
              apply Exists.intro
              refine ⟨fun w' hw' => ?_, ?_⟩
              · obtain ⟨q1, q2, q3⟩ := HRD.out w' hw'
                go_simp
                first | done | rfl
              try simp only [Act.put, List.setIfInBounds_toArray, List.set_cons_zero, List.set_cons_succ]
              refine UntH.take (i := 8) (some 67) rfl rfl (by kernel_rfl) (by kernel_rfl) (by kernel_rfl) (by kernel_rfl) (fun _ _ _ _ h => h) (by rfl) HS0.out ?_
              apply Exists.intro
              refine ⟨fun w' hw' => ?_, ?_⟩
              · obtain ⟨q1, q2, q3⟩ := HRD.out w' hw'
                go_simp
                first | done | rfl
              try simp only [Act.put, List.setIfInBounds_toArray, List.set_cons_zero, List.set_cons_succ]
              refine UntH.take (i := 9) (some 68) rfl rfl (by kernel_rfl) (by kernel_rfl) (by kernel_rfl) (by kernel_rfl) (fun _ _ _ _ h => h) (by rfl) HS0.out ?_
              apply Exists.intro
              refine ⟨fun w' hw' => ?_, ?_⟩
              · obtain ⟨q1, q2, q3⟩ := HRD.out w' hw'
                go_simp
                first | done | rfl
              try simp only [Act.put, List.setIfInBounds_toArray, List.set_cons_zero, List.set_cons_succ]
              refine UntH.take (i := 10) (some 69) rfl rfl (by kernel_rfl) (by kernel_rfl) (by kernel_rfl) (by kernel_rfl) (fun _ _ _ _ h => h) (by rfl) HS0.out ?_
              apply Exists.intro
              refine ⟨fun w' hw' => ?_, ?_⟩
              · obtain ⟨q1, q2, q3⟩ := HRD.out w' hw'
                go_simp
                first | done | rfl
              try simp only [Act.put, List.setIfInBounds_toArray, List.set_cons_zero, List.set_cons_succ]
              refine UntH.take (i := 11) (some 70) rfl rfl (by kernel_rfl) (by kernel_rfl) (by kernel_rfl) (by kernel_rfl) (fun _ _ _ _ h => h) (by rfl) HS0.out ?_
              apply Exists.intro
              refine ⟨fun w' hw' => ?_, ?_⟩
              · obtain ⟨q1, q2, q3⟩ := HRD.out w' hw'
                go_simp
                first | done | rfl
              try simp only [Act.put, List.setIfInBounds_toArray, List.set_cons_zero, List.set_cons_succ]
              refine UntH.take (i := 12) (some 71) rfl rfl (by kernel_rfl) (by kernel_rfl) (by kernel_rfl) (by kernel_rfl) (fun _ _ _ _ h => h) (by rfl) HS0.out ?_
              apply Exists.intro
              refine ⟨fun w' hw' => ?_, ?_⟩
              · obtain ⟨q1, q2, q3⟩ := HRD.out w' hw'
                go_simp
                first | done | rfl
              try simp only [Act.put, List.setIfInBounds_toArray, List.set_cons_zero, List.set_cons_succ]
              refine UntH.take (i := 13) (some 72) rfl rfl (by kernel_rfl) (by kernel_rfl) (by kernel_rfl) (by kernel_rfl) (fun _ _ _ _ h => h) (by rfl) HS0.out ?_
              apply Exists.intro
              refine ⟨fun w' hw' => ?_, ?_⟩
              · obtain ⟨q1, q2, q3⟩ := HRD.out w' hw'
                go_simp
                first | done | rfl
              try simp only [Act.put, List.setIfInBounds_toArray, List.set_cons_zero, List.set_cons_succ]
              refine UntH.step (i := 14) (by kernel_rfl) rfl (fun K' hK => ?_)
              go_simp
              refine HMK.out.mono ?_
              rintro e w9 ⟨rfl, x9⟩
              have X9 := hide (bt HS0.out x9 (Nat.le_refl _))
              refine hK _ _ X9.out ?_
              clear hK K' x9 HMK
              obtain ⟨⟨u0, e0⟩, f0, ⟨u1, e1⟩, f1, ⟨u2, e2⟩, f2, o9, k9⟩ := row_st3 (HOW.out w9 X9.out) HKM.out (.int .i64 0) (.int .i64 0) (.int .i64 (-1 - (q : Int)))
              obtain ⟨X3, M3⟩ := HST.out w9 _ X9.out o9 k9
              have M3 := hide M3
              clear o9 k9 HOW HST
              refine UntH.step (i := 15) (by kernel_rfl) rfl (fun K' hK => ?_)
              go_simp
              refine hK _ _ X9.out ?_
              clear hK K'
              try simp only [Act.put, List.setIfInBounds_toArray, List.set_cons_zero, List.set_cons_succ]
              refine UntH.last (by kernel_rfl) rfl (by kernel_rfl) (by kernel_rfl) (fun K hK => ?_)
              go_simp
              refine hK _ _ ?_
              clear hK K
              go_wp2
              go_roundw
              case rel => exact ⟨k + 1, by omega, by go_num, X3, M3⟩
              case measure => simp [RowKit.intOf]; omega
            · have h8 : k = (FD[i]).n := by omega
              have M3 : Hid (Mkg 44 65 3 (fun i => mcR (n + i)) wc base (.slice (some ⟨lb, 0, none⟩) FD.length cf) FD (i + 1) 0 X2 wr) := by have := M2.out; rw [h8] at this; exact Mkg.next (mc := fun i => mcR (n + i)) (fun _ => rfl) hlt this
              have hk' : ¬ (k : Int) < (FD[i]).n := by omega
              generalize (FD[i]).n = m at *
              clear HV M2 h8 HPO
              go_wp2
              go_roundw
              case rel => exact ⟨i + 1, by omega, by go_num, X2, M3⟩
              case measure => simp [RowKit.intOf]; omega
        · have h8 : i = FD.length := by omega
          have hlt' : ¬ (i : Int) < FD.length := by omega
          have M2 : Hid (Mkg 44 65 3 (fun i => mcR (n + i)) wc base (.slice af FD.length cf) FD FD.length 0 X1 wr) := by have := M1.out; rw [h8] at this; exact this
          clear M1 h8 hbk
          go_wp2
          go_meet
          exact ⟨_, M2⟩
    case rest =>
      obtain ⟨XM, HM⟩ := hcut
      have G0 := hide (kq_start HB1.out.rest HM.out)
      have B0 : Hid (wc.heap[bb]? = some (.cells #[.slice af FD.length cf, .slice aw WD.length cw, alv, .int .i64 n] 28 (0, 0))) := HM.out.keep bb _ _ _ (by decide) HB1.out.blk
      have K0 : Hid (BkK base w wc) := K1.out.trans (BkK.of_kept HM.out.kd (fun k ⟨i', a, _, c⟩ => BkF.own (HB1.out.rest.ls.each i' a) (.inr (.inr rfl)) c))
      clear HM XM K1 HB1 HWB
      go_upto_block 6 with fail
      go_cut [7, 8, 9] (fun _ _ _ wx => ∃ o A, Hid (wx.heap[bb]? = some (.cells #[.slice af FD.length cf, .slice aw WD.length cw, o, .int .i64 n] 28 (0, 0))) ∧ Hid (KqO 5 44 65 3 mcR wx base (.slice af FD.length cf) (FD.map LD.v) o (dum n FD) A (n + FD.length)) ∧ Hid (BkK base w wx))
      case first =>
        go_wp2
        go_loopw [7] (fun x wr => ∃ i : Nat, i ≤ FD.length ∧ x = .int .i64 i ∧ ∃ o A, Hid (wr.heap[bb]? = some (.cells #[.slice af FD.length cf, .slice aw WD.length cw, o, .int .i64 n] 28 (0, 0))) ∧ Hid (KqO 5 44 65 3 mcR wr base (.slice af FD.length cf) (FD.map LD.v) o (dum n FD) A (n + i)) ∧ Hid (BkK base w wr)) (fun x _ => FD.length - (RowKit.intOf x).toNat)
        case atStart => exact ⟨0, Nat.zero_le _, rfl, _, _, B0, G0, K0⟩
        case round =>
          obtain ⟨i, hi1, rfl, o, A2, B2, G2, K2⟩ := hrel
          clear B0 G0 K0
          obtain ⟨c0, -, -, -⟩ := bk_cells B2.out
          by_cases hlt : i < FD.length
          · have hlt' : (i : Int) < FD.length := by omega
            obtain ⟨lb, rfl⟩ := HPF.out (by omega)
            have hnn := HN.out i hlt
            have c9 : wr.cell? ⟨lb, i, none⟩ = some (FD[i]).v := own_cell1 (n := FD.length) (by have := G2.out.row; rwa [List.length_map] at this) rfl hlt rfl
            have G3 := hide (G2.out.enter (by rw [dum_length]; omega))
            rw [dum_get n FD i hlt] at G3
            clear G2
            have HQI : Hid (n + i ≤ 4294967296) := by have := HNN.out; show n + i ≤ 4294967296; omega
            generalize (FD[i]).n = m at *
            generalize (FD[i]).v = xv at *
            go_wp2
            clear c0 c9
            go_loopw [8, 9] (fun xx q wr => ∃ k : Nat, k ≤ 5 ∧ q = .int .i64 k ∧ ∃ o A nx, nx ≤ m + k ∧ Hid (wr.heap[bb]? = some (.cells #[.slice (some ⟨lb, 0, none⟩) FD.length cf, .slice aw WD.length cw, o, .int .i64 n] 28 (0, 0))) ∧ Hid (Kq 5 44 65 3 mcR wr base (.slice (some ⟨lb, 0, none⟩) FD.length cf) (FD.map LD.v) o (dum n FD) A (n + i) k xx nx) ∧ Hid (BkK base w wr)) (fun _ q _ => 5 - (RowKit.intOf q).toNat)
            case atStart => exact ⟨0, Nat.zero_le _, rfl, _, _, m, Nat.le_refl _, B2, G3, K2⟩
            case round =>
              obtain ⟨k, hk1, rfl, o5, A5, nx, hnx, B5, G5, K5⟩ := hrel
              clear G3 B2 K2
              by_cases hk : k < 5
              · have hk' : (k : Int) < 5 := by omega
                obtain ⟨ax, cx, hx, _⟩ := own_shape G5.out.own
                subst hx
                obtain ⟨ao, co, ho, _⟩ := own_shape G5.out.all
                subst ho
                obtain ⟨-, -, c2, -⟩ := bk_cells B5.out
                have hlen := G5.out.len
                have HNX : Hid (nx + 1 ≤ 4294967400 ∧ A5.length + 1 ≤ 21474836600) := ⟨by omega, by have := HQI.out; omega⟩
                have HX6 : Hid (Below wr.heap.size wr (wr.alloc (.cells #[.slice ax nx cx] 44))) := al (Below.refl _ wr) _
                have G6 := hide (G5.out.below HX6.out)
                have B6 := hide ((HX6.out.block bb (lt_of_block B5.out)).trans B5.out)
                have K6 := hide (K5.out.next HX6.out)
                have HN6 := hide (one_new44 wr (.slice ax nx cx))
                have HS6 : Hid (base ≤ (wr.alloc (.cells #[.slice ax nx cx] 44)).heap.size) := Nat.le_trans HBB.out (Nat.le_of_lt (lt_of_block B6.out))
                clear G5 B5 K5 hlen HX6
                go_upto_region 22 with (at_builtin; refine wpList_append_view rfl (.tmp 99) (.tmp 101) 26 rfl base 44 i44 (.slice none 0 0) 1 24 Try.underlying26 hi44 hy0 hy1 hy2 rfl (by decide) _ A5.length (A5.map LD.v) rfl G6.out.all ⟨wr.heap.size, 0, none⟩ 1 1 [.slice ax nx cx] rfl rfl HN6.out (by simp [Value.oneCell']) (by decide) (by have := HNX.out.2; unfold maxLen; omega) (by have := HNX.out.2; omega) HS6.out ?_; intro v7 w7 h1 h2; obtain ⟨a7, k7, hv7, _⟩ := own_shape h1; subst hv7; have G7 := hide (G6.out.push mcR_len (by decide) hk h1 h2); have B7 := hide (bk_app B6.out h2 G6.out.all (by decide)); have K7 := hide (K6.out.trans (BkK.app h2 G6.out.all (.inr (.inl rfl)))); have c7 := (bk_cells B7.out).2.2.1; have f7 := frozen_of_row w7 bb 2 _ _ B7.out; clear h1 h2 G6 B6 K6)
                clear c7 f7 c2 HS6 HN6
                have G8 := hide (G7.out.keepQ (bk_keep B7.out 2 (.slice a7 (A5.length + 1) k7)) (by decide) (by decide))
                have B8 := hide (bk_set2 B7.out (.slice a7 (A5.length + 1) k7))
                have K8 := hide (K7.out.set B7.out HBB.out 2 (.slice a7 (A5.length + 1) k7))
                clear G7 B7 K7
                generalize w7.setCell ⟨bb, 2, none⟩ (.slice a7 (A5.length + 1) k7) = w8 at *
                have c3 := (bk_cells B8.out).2.2.2
                obtain ⟨q, hq⟩ : ∃ q, q = n + i := ⟨_, rfl⟩
                have fq : IntKind.i64.wrap ((n : Int) + (i : Int)) = (q : Int) := by rw [hq, ← Int.natCast_add]; have := HQI.out; simp [IntKind.wrap, IntKind.bits, IntKind.signed]; omega
                have HQE := hide hq
                have HMK := hide (mark_any q (by rw [hq]; have := HQI.out; omega) w8)
                clear hq
                go_wp2_with (first
                  | (go_at_call 32; refine HMK.out.mono ?_; rintro e w9 ⟨rfl, x9⟩; have HX9 : Hid (Below w8.heap.size w8 (w9.alloc (.cells #[.int .i64 0, .int .i64 0, .int .i64 (-1 - (q : Int))] 65))) := (bt x9 (al (Below.refl _ w9) _) (Nat.le_refl _)); have G9 := hide (G8.out.below HX9.out); have B9 := hide ((HX9.out.block bb (lt_of_block B8.out)).trans B8.out); have K9 := hide (K8.out.next HX9.out); have HN9 := hide (three_new w9 (.int .i64 0) (.int .i64 0) (.int .i64 (-1 - (q : Int)))); have HS9 : Hid (base ≤ (w9.alloc (.cells #[.int .i64 0, .int .i64 0, .int .i64 (-1 - (q : Int))] 65)).heap.size) := (Nat.le_trans HBB.out (Nat.le_of_lt (lt_of_block B9.out))); clear x9 HX9 c3 HMK)
                  | (at_builtin; refine wpList_append_view rfl (.tmp 105) (.tmp 113) 44 rfl base 65 i65 (.agg #[.int .i64 0, .int .i64 0, .int .i64 0]) 3 24 Try.underlying44 hi65 hz0 hz1 hz2 rfl (by decide) _ nx (rep mcR (n + i) nx) rfl G9.out.own ⟨w9.heap.size, 0, none⟩ 1 1 [.int .i64 0, .int .i64 0, .int .i64 (-1 - (q : Int))] rfl rfl HN9.out (by simp [Value.oneCell']) (by decide) (by have := HNX.out.1; unfold maxLen; omega) (by have := HNX.out.1; omega) HS9.out ?_; intro v10 w10 h1 h2; have G10 := hide (G9.out.grow mcR_len (by decide) (by rw [HQE.out] at h1; exact h1) h2); have B10 := hide (bk_app B9.out h2 G9.out.own (by decide)); have K10 := hide (K9.out.trans (BkK.app h2 G9.out.own (.inr (.inr rfl)))); clear h1 h2 G9 B9 K9))
                go_roundw
                case rel => exact ⟨k + 1, by omega, by go_num, _, _, _, by omega, B10, G10, K10⟩
                case measure => simp [RowKit.intOf]; omega
              · have hk' : ¬ (k : Int) < 5 := by omega
                have h6 : k = 5 := by omega
                have G6 := hide (Kq.leave (by have := G5.out; rw [h6] at this; exact this))
                clear G5 h6
                go_wp2
                go_roundw
                case rel => exact ⟨i + 1, by omega, by go_num, _, _, B5, G6, K5⟩
                case measure => simp [RowKit.intOf]; omega
          · have h8 : i = FD.length := by omega
            have hlt' : ¬ (i : Int) < FD.length := by omega
            have G3 : Hid (KqO 5 44 65 3 mcR wr base (.slice af FD.length cf) (FD.map LD.v) o (dum n FD) A2 (n + FD.length)) := by have := G2.out; rw [h8] at this; exact this
            clear G2 h8
            go_wp2
            go_meet
            exact ⟨_, _, B2, G3, K2⟩
      case rest =>
        obtain ⟨o, A3, B3, G3, K3⟩ := hcut
        clear B0 G0 K0 HN HPF HPW
        obtain ⟨ao, co, ho, hpos⟩ := own_shape G3.out.all
        subst ho
        obtain ⟨q, hq⟩ : ∃ q, q = n + FD.length := ⟨_, rfl⟩
        have fq : IntKind.i64.wrap ((n : Int) + (FD.length : Int)) = (q : Int) := by rw [hq, ← Int.natCast_add]; have := HNN.out; simp [IntKind.wrap, IntKind.bits, IntKind.signed]; omega
        have HQE := hide hq
        have hlen := G3.out.len
        have hAle : A3.length ≤ 21474836480 := by have := HNN.out; omega
        have HPO := hide hpos
        clear hq hlen hpos
        have HS0 : Hid (Below wc.heap.size wc wc.drew) := (Below.refl _ _).drew
        have hbl : bb < wc.heap.size := lt_of_block B3.out
        obtain ⟨c0, -, -, c3⟩ := bk_cells B3.out
        have HRD : Hid (∀ W, Below wc.heap.size wc W → W.cell? ⟨bb, 0, none⟩ = some (.slice af FD.length cf) ∧ W.cell? ⟨bb, 3, none⟩ = some (.int .i64 n)) := fun W x => ⟨(x.cell (p := ⟨bb, 0, none⟩) hbl).trans c0, (x.cell (p := ⟨bb, 3, none⟩) hbl).trans c3⟩
        have B4 := hide ((HS0.out.block bb (lt_of_block B3.out)).trans B3.out)
        have G4 := hide (G3.out.below HS0.out)
        have K4 := hide (K3.out.next HS0.out)
        clear c0 c3 B3 G3 K3
        go_upto_region 23 with fail
        refine wp_unt (S := fun V => Below wc.heap.size wc V) 13 (by kernel_rfl) ?_
        generalize wc.drew = wd at *
        refine UntH.take (i := 0) (some 115) rfl rfl (by kernel_rfl) (by kernel_rfl) (by kernel_rfl) (by kernel_rfl) (fun _ _ _ _ h => h) (by rfl) HS0.out ?_
        apply Exists.intro
        refine ⟨fun w' hw' => ?_, ?_⟩
        · obtain ⟨q1, q2⟩ := HRD.out w' hw'
          go_simp
          first | done | rfl
        try simp only [Act.put, List.setIfInBounds_toArray, List.set_cons_zero, List.set_cons_succ]
        refine UntH.take (i := 1) (some 116) rfl rfl (by kernel_rfl) (by kernel_rfl) (by kernel_rfl) (by kernel_rfl) (fun _ _ _ _ h => h) (by rfl) HS0.out ?_
        apply Exists.intro
        refine ⟨fun w' hw' => ?_, ?_⟩
        · obtain ⟨q1, q2⟩ := HRD.out w' hw'
          go_simp
          first | done | rfl
        try simp only [Act.put, List.setIfInBounds_toArray, List.set_cons_zero, List.set_cons_succ]
        refine UntH.take (i := 2) (some 117) rfl rfl (by kernel_rfl) (by kernel_rfl) (by kernel_rfl) (by kernel_rfl) (fun _ _ _ _ h => h) (by rfl) HS0.out ?_
        apply Exists.intro
        refine ⟨fun w' hw' => ?_, ?_⟩
        · obtain ⟨q1, q2⟩ := HRD.out w' hw'
          go_simp
          first | done | rfl
        try simp only [Act.put, List.setIfInBounds_toArray, List.set_cons_zero, List.set_cons_succ]
        refine UntH.take (i := 3) (some 118) rfl rfl (by kernel_rfl) (by kernel_rfl) (by kernel_rfl) (by kernel_rfl) (fun _ _ _ _ h => h) (by rfl) HS0.out ?_
        apply Exists.intro
        refine ⟨fun w' hw' => ?_, ?_⟩
        · obtain ⟨q1, q2⟩ := HRD.out w' hw'
          go_simp
          first | done | rfl
        try simp only [Act.put, List.setIfInBounds_toArray, List.set_cons_zero, List.set_cons_succ]
        refine UntH.take (i := 4) (some 119) rfl rfl (by kernel_rfl) (by kernel_rfl) (by kernel_rfl) (by kernel_rfl) (fun _ _ _ _ h => h) (by rfl) HS0.out ?_
        apply Exists.intro
        refine ⟨fun w' hw' => ?_, ?_⟩
        · obtain ⟨q1, q2⟩ := HRD.out w' hw'
          go_simp
          first | done | rfl
        try simp only [Act.put, List.setIfInBounds_toArray, List.set_cons_zero, List.set_cons_succ]
        refine UntH.take (i := 5) (some 120) rfl rfl (by kernel_rfl) (by kernel_rfl) (by kernel_rfl) (by kernel_rfl) (fun _ _ _ _ h => h) (by rfl) HS0.out ?_
        apply Exists.intro
        refine ⟨fun w' hw' => ?_, ?_⟩
        · obtain ⟨q1, q2⟩ := HRD.out w' hw'
          go_simp
          first | done | rfl
        try simp only [Act.put, List.setIfInBounds_toArray, List.set_cons_zero, List.set_cons_succ]
        refine UntH.take (i := 6) (some 121) rfl rfl (by kernel_rfl) (by kernel_rfl) (by kernel_rfl) (by kernel_rfl) (fun _ _ _ _ h => h) (by rfl) HS0.out ?_
        apply Exists.intro
        refine ⟨fun w' hw' => ?_, ?_⟩
        · obtain ⟨q1, q2⟩ := HRD.out w' hw'
          go_simp
          first | done | rfl
        try simp only [Act.put, List.setIfInBounds_toArray, List.set_cons_zero, List.set_cons_succ]
        refine UntH.take (i := 7) (some 122) rfl rfl (by kernel_rfl) (by kernel_rfl) (by kernel_rfl) (by kernel_rfl) (fun _ _ _ _ h => h) (by rfl) HS0.out ?_
        apply Exists.intro
        refine ⟨fun w' hw' => ?_, ?_⟩
        · obtain ⟨q1, q2⟩ := HRD.out w' hw'
          go_simp
          first | done | rfl
        try simp only [Act.put, List.setIfInBounds_toArray, List.set_cons_zero, List.set_cons_succ]
        refine UntH.take (i := 8) (some 123) rfl rfl (by kernel_rfl) (by kernel_rfl) (by kernel_rfl) (by kernel_rfl) (fun _ _ _ _ h => h) (by rfl) HS0.out ?_
        apply Exists.intro
        refine ⟨fun w' hw' => ?_, ?_⟩
        · obtain ⟨q1, q2⟩ := HRD.out w' hw'
          go_simp
          first | done | rfl
        try simp only [Act.put, List.setIfInBounds_toArray, List.set_cons_zero, List.set_cons_succ]
        refine UntH.take (i := 9) (some 124) rfl rfl (by kernel_rfl) (by kernel_rfl) (by kernel_rfl) (by kernel_rfl) (fun _ _ _ _ h => h) (by rfl) HS0.out ?_
        apply Exists.intro
        refine ⟨fun w' hw' => ?_, ?_⟩
        · obtain ⟨q1, q2⟩ := HRD.out w' hw'
          go_simp
          first | done | rfl
        try simp only [Act.put, List.setIfInBounds_toArray, List.set_cons_zero, List.set_cons_succ]
        refine UntH.take (i := 10) (some 125) rfl rfl (by kernel_rfl) (by kernel_rfl) (by kernel_rfl) (by kernel_rfl) (fun _ _ _ _ h => h) (by rfl) HS0.out ?_
        apply Exists.intro
        refine ⟨fun w' hw' => ?_, ?_⟩
        · obtain ⟨q1, q2⟩ := HRD.out w' hw'
          go_simp
          first | done | rfl
        try simp only [Act.put, List.setIfInBounds_toArray, List.set_cons_zero, List.set_cons_succ]
        refine UntH.take (i := 11) (some 126) rfl rfl (by kernel_rfl) (by kernel_rfl) (by kernel_rfl) (by kernel_rfl) (fun _ _ _ _ h => h) (by rfl) HS0.out ?_
        apply Exists.intro
        refine ⟨fun w' hw' => ?_, ?_⟩
        · obtain ⟨q1, q2⟩ := HRD.out w' hw'
          go_simp
          first | done | rfl
        try simp only [Act.put, List.setIfInBounds_toArray, List.set_cons_zero, List.set_cons_succ]
        refine UntH.take (i := 12) (some 127) rfl rfl (by kernel_rfl) (by kernel_rfl) (by kernel_rfl) (by kernel_rfl) (fun _ _ _ _ h => h) (by rfl) HS0.out ?_
        apply Exists.intro
        refine ⟨fun w' hw' => ?_, ?_⟩
        · obtain ⟨q1, q2⟩ := HRD.out w' hw'
          go_simp
          first | done | rfl
        try simp only [Act.put, List.setIfInBounds_toArray, List.set_cons_zero, List.set_cons_succ]
        have c7 := (bk_cells B4.out).2.2.2
        have f7 := frozen_of_row wd bb 3 _ _ B4.out
        refine UntH.last (by kernel_rfl) rfl (by kernel_rfl) (by kernel_rfl) (fun K hK => ?_)
        go_simp
        refine hK _ _ ?_
        clear hK K c7 f7 HRD HS0
        have G5 := hide (G4.out.keepQ (bk_keep B4.out 3 (.int .i64 (q : Int))) (by decide) (by decide))
        have B5 := hide (bk_set3 B4.out (.int .i64 (q : Int)))
        have K5 := hide (K4.out.set B4.out HBB.out 3 (.int .i64 (q : Int)))
        clear G4 B4 K4
        generalize wd.setCell ⟨bb, 3, none⟩ (.int .i64 (q : Int)) = w5 at *
        have c7 := (bk_cells B5.out).1
        have f7 := frozen_of_row w5 bb 0 _ _ B5.out
        go_upto_region 25 with fail
        clear c7 f7
        have G6 := hide (G5.out.keepQ (bk_keep B5.out 0 (.slice none 0 0)) (by decide) (by decide))
        have B6 := hide (bk_set0 B5.out (.slice none 0 0))
        have K6 := hide (K5.out.set B5.out HBB.out 0 (.slice none 0 0))
        clear G5 B5 K5
        generalize w5.setCell ⟨bb, 0, none⟩ (.slice none 0 0) = w6 at *
        have c7 := (bk_cells B6.out).2.1
        have f7 := frozen_of_row w6 bb 1 _ _ B6.out
        go_upto_region 26 with fail
        clear c7 f7
        have G7 := hide (G6.out.keepQ (bk_keep B6.out 1 (.slice none 0 0)) (by decide) (by decide))
        have B7 := hide (bk_set1 B6.out (.slice none 0 0))
        have K7 := hide (K6.out.set B6.out HBB.out 1 (.slice none 0 0))
        clear G6 B6 K6
        generalize w6.setCell ⟨bb, 1, none⟩ (.slice none 0 0) = w7 at *
        go_wp2
        go_loopw [10] (fun x wz => ∃ j : Nat, j ≤ A3.length ∧ x = .int .i64 j ∧ Hid (Below w7.heap.size w7 wz)) (fun x _ => A3.length - (RowKit.intOf x).toNat)
        case atStart => exact ⟨0, Nat.zero_le _, rfl, Below.refl _ _⟩
        case round =>
          obtain ⟨j, hj1, rfl, HQ⟩ := hrel
          have B8 := hide ((HQ.out.block bb (lt_of_block B7.out)).trans B7.out)
          obtain ⟨-, -, c2, -⟩ := bk_cells B8.out
          by_cases hlj : j < A3.length
          · have hlj' : (j : Int) < A3.length := by omega
            obtain ⟨lo, hlo⟩ := HPO.out (by omega)
            subst hlo
            have G8 := hide (G7.out.below HQ.out)
            have hvw := (G8.out.views j hlj).1
            have hnm := hvw.le
            unfold maxLen at hnm
            obtain ⟨av, cv, hv, hcs⟩ := hvw.shape
            have HAV := hide hv
            have HCV := hide hvw
            have HLJ : Hid (j + 1 ≤ A3.length) := hlj
            have HK0 := hide (own_cell1 G8.out.all rfl hlj rfl)
            rw [HAV.out] at HK0
            have HLO : Hid (lo < wr.heap.size) := (World.ownsRow.lt G8.out.all lo rfl).2
            have HJ5 : Hid (j / 5 ≤ 1099511627776) := by show j / 5 ≤ 1099511627776; omega
            clear hv hvw hcs
            generalize (A3[j]).n = m at *
            generalize (A3[j]).v = vv at *
            clear G8
            go_wp2
            clear c2
            go_loopw [11] (fun x wz => ∃ k : Nat, k ≤ m ∧ x = .int .i64 k ∧ Hid (Below wr.heap.size wr wz)) (fun x _ => m - (RowKit.intOf x).toNat)
            case atStart => exact ⟨0, Nat.zero_le _, rfl, Below.refl _ _⟩
            case round =>
              rename World => wz
              obtain ⟨k, hk1, rfl, HZ⟩ := hrel
              have hbl : bb < wz.heap.size := Nat.lt_of_lt_of_le (lt_of_block B8.out) HZ.out.size
              have hll : lo < wz.heap.size := Nat.lt_of_lt_of_le HLO.out HZ.out.size
              have c2 := (HZ.out.cell (p := ⟨bb, 2, none⟩) (lt_of_block B8.out)).trans (bk_cells B8.out).2.2.1
              have k0 := (HZ.out.cell (p := ⟨lo, j, none⟩) HLO.out).trans HK0.out
              by_cases hk : k < m
              · have hk' : (k : Int) < m := by omega
                have hv8 := HCV.out.below HZ.out
                obtain ⟨av', cv', ev, hcs⟩ := hv8.shape
                obtain ⟨g, hgg, hc⟩ := hcs.resolve_left (by omega)
                subst hgg
                have ev2 : Value.slice av m cv = .slice (some ⟨g, 0, none⟩) m cv' := HAV.out.symm.trans ev
                injection ev2 with ea eb ec
                subst ea
                have hgl : g < wz.heap.size := hv8.lt g (by rw [ev]; rfl)
                have cc : ∀ r, r < 3 → wz.cell? ⟨g, k * 3 + r, none⟩ = (mcR (j / 5))[r]? := fun r hr => by
                  have := hc (k * 3 + r) (by omega)
                  rwa [show (k * 3 + r) % 3 = r by omega] at this
                obtain ⟨p, hp⟩ : ∃ p, p = j / 5 := ⟨_, rfl⟩
                rw [← hp] at cc
                have d0 := (cc 0 (by omega)).trans (show (mcR p)[0]? = some (.int .i64 0) from rfl)
                have d1 := (cc 1 (by omega)).trans (show (mcR p)[1]? = some (.int .i64 0) from rfl)
                have d2 := (cc 2 (by omega)).trans (show (mcR p)[2]? = some (.int .i64 (-1 - (p : Int))) from rfl)
                rw [Nat.add_zero] at d0
                have hq6 : (j : Int).tdiv 5 = (p : Int) := by rw [Int.tdiv_eq_ediv_of_nonneg (by omega)]; omega
                have fw6 : IntKind.i64.wrap (p : Int) = (p : Int) := by simp [IntKind.wrap, IntKind.bits, IntKind.signed]; omega
                have HMK := hide (fun W => mark_any p (by rw [hp]; exact HJ5.out) W)
                have HDr : Hid (Below wz.heap.size wz wz.drew) := (Below.refl _ _).drew
                clear cc hc hv8 ev hp eb ec hcs
                go_upto_region 32 with fail
                refine wp_region_quiet (C := fun w' => Below wz.heap.size wz w') (by kernel_rfl) (by kernel_rfl) HDr.out ?_
                refine QW.out (l := _ :: _) ?_
                iterate 12 (refine QW.take (by rfl) ?_; apply Exists.intro; refine ⟨fun w' hw' => ?_, ?_⟩; (· (have g1 := (hw'.cell (p := ⟨bb, 2, none⟩) hbl).trans c2; have g2 := (hw'.cell (p := ⟨lo, j, none⟩) hll).trans k0; have g3 := (hw'.cell (p := ⟨g, k * 3, none⟩) hgl).trans d0; have g4 := (hw'.cell (p := ⟨g, k * 3 + 1, none⟩) hgl).trans d1; have g5 := (hw'.cell (p := ⟨g, k * 3 + 2, none⟩) hgl).trans d2; go_simp; first | done | rfl)); try simp only [Act.put, List.setIfInBounds_toArray, List.set_cons_zero, List.set_cons_succ])
                iterate 1 (refine QW.take (by rfl) ?_; apply Exists.intro; refine ⟨fun w' hw' => ?_, ?_⟩; (· (go_simp; (refine (HMK.out w').mono ?_; rintro e w2 ⟨rfl, x2⟩; exact ⟨rfl, hw'.trans (x2.mono hw'.size)⟩))); try simp only [Act.put, List.setIfInBounds_toArray, List.set_cons_zero, List.set_cons_succ])
                iterate 1 (refine QW.take (by rfl) ?_; apply Exists.intro; refine ⟨fun w' hw' => ?_, ?_⟩; (· (go_simp; first | done | rfl)); try simp only [Act.put, List.setIfInBounds_toArray, List.set_cons_zero, List.set_cons_succ])
                refine QW.nil ?_
                intro wy x7
                have X7 := hide (HZ.out.trans (x7.mono HZ.out.size))
                clear x7 c2 k0 d0 d1 d2
                go_wp2
                go_roundw
                case rel => exact ⟨k + 1, by omega, by go_num, X7⟩
                case measure => simp [RowKit.intOf]; omega
              · have hk' : ¬ (k : Int) < m := by omega
                have X8 := hide (HQ.out.trans (HZ.out.mono HQ.out.size))
                go_wp2
                go_roundw
                case rel => exact ⟨j + 1, HLJ.out, by go_num, X8⟩
                case measure => have := HLJ.out; simp [RowKit.intOf]; omega
          · have hlj' : ¬ (j : Int) < A3.length := by omega
            go_wp2
            go_ret
            have G9 := G7.out.below HQ.out
            have B9 := B8.out
            rw [HQE.out] at B9
            exact ⟨rfl, ⟨_, A3, B9, HBB.out, ⟨⟨World.ownsRow_nil _ _ _ _, fun i h => by simp at h, List.Pairwise.nil⟩, fun i h => by simp at h, World.ownsRow_nil _ _ _ _, fun i h => by simp at h, G9.all, G9.len, fun j hj => ⟨(G9.views j hj).1, fun k _ ⟨i', h, _⟩ => by simp at h⟩, fun k h => (by cases h), fun k _ h => (by cases h), fun k _ h => (by cases h), fun _ => Nat.zero_le _⟩⟩, K7.out.next HQ.out⟩
end Go.Proofs.Ytnfdjbaafiifnaa
