/-
  The statement's apart, walked: lists that read as wanted, each in a block of its own, are apart. Condition: few lists, each no longer than 2^33.
-/
import Derived.Test.YtljagefcgijmlaaMarks
import Derived.Deep.RegionHeld3
namespace Go.Proofs.Ytljagefcgijmlaa
open Go.RowKit Go.Lib

/-- An append's own row is all that it turns. -/
theorem appKept {w w' : World} {base size n : Nat} {e : TypeId} {v v' : Value} {xs : List Value} (h : AppAt w w' v v') (ho : w.ownsRow base e size v n xs) : Kept (fun k => base ≤ k) w w' := by
  rcases h with ⟨g, a, b, c⟩ | ⟨a, b⟩
  · exact (kept_of_grown c).mono (fun k hk => by cases hk; exact (World.ownsRow.lt ho g a).1)
  · exact Kept.of_below (below_of_grown a)
theorem Mkd.onto {w0 w w' : World} {base : Nat} {l : Value} {D : List LD} {i k : Nat} {X : Nat → List Value} (h : Mkd w0 base l D i k X w) (hb : base ≤ w0.heap.size) (x : Below w.heap.size w w') : Mkd w0 base l D i k X w' :=
  ⟨h.ls.below x, h.done, h.part, h.below.trans (x.mono (Nat.le_trans hb h.below.size))⟩
theorem mark_b (n : Nat) (hn : n ≤ 4294967296) (w : World) : Calls Try.prog 46 #[.int .i64 n] w fun e w' => e = .returned (.agg #[.int .i64 (-1 - (n : Int)), .int .i64 (n : Int)]) ∧ Below w.heap.size w w' :=
  (mark_any n hn w).mono fun _ _ ⟨h1, h2⟩ => ⟨h1, by rw [h2]; exact (Below.refl _ _).alloc (Nat.le_refl _) _⟩
theorem ne_trans {b : Nat} {w w' : World} (h : Below w.heap.size w w') (hb : b < w.heap.size) : b < w'.heap.size := Nat.lt_of_lt_of_le hb h.size

set_option maxRecDepth 100000 in
set_option maxHeartbeats 2000000 in
theorem apart_any (w : World) (base lb lcap eb ecap : Nat) (D : List LD) (AA : Nat → List Spn) (ea : Nat → Option Addr) (ec : Nat → Nat) (hls : LsAt 22 46 2 w base (.slice (some ⟨lb, 0, none⟩) D.length lcap) D (fun j => spCells (AA j)))
    (hdn : ∀ j (h : j < D.length), (D[j]).n = (AA j).length) (heb : eb < w.heap.size) (hwe : ∀ j, j < D.length → w.cell? ⟨eb, j, none⟩ = some (.slice (ea j) (AA j).length (ec j)) ∧ SpAt w (ea j) (AA j))
    (hb : base ≤ w.heap.size) (hD : D.length ≤ 1000) (hn : ∀ j, (AA j).length ≤ 8589934592) :
    Calls Try.prog 20 #[.slice (some ⟨lb, 0, none⟩) D.length lcap, .slice (some ⟨eb, 0, none⟩) D.length ecap] w fun e w' => e = .returned (.bool true) ∧ Below base w w' := by
  obtain ⟨i46, hi, hz0, hz1, hz2⟩ : ∃ i, Try.prog.info? 46 = some i ∧ i.zero = some (.agg #[.int .i64 0, .int .i64 0]) ∧ i.size = 2 ∧ i.bytes = 16 := info_parts Try.info46
  obtain ⟨i22, hj, hy0, hy1, hy2⟩ : ∃ i, Try.prog.info? 22 = some i ∧ i.zero = some (.slice none 0 0) ∧ i.size = 1 ∧ i.bytes = 24 := info_parts Try.info22
  have HN : Hid (∀ i (h : i < D.length), (D[i]).n ≤ 8589934592) := fun i h => by rw [hdn i h]; exact hn i
  have HL := hide hls
  have HE := hide hwe
  have HDN := hide hdn
  have HNA := hide hn
  clear hls hwe hdn hn
  go_enter Try.func20, Try.ntmps20
  go_wp2
  go_loopw [5] (fun x wq => ∃ j : Nat, j ≤ D.length ∧ x = .int .i64 j ∧ Below w.heap.size w wq) (fun x _ => D.length - (RowKit.intOf x).toNat)
  case atStart => exact ⟨0, Nat.zero_le _, rfl, Below.refl _ _⟩
  case round =>
    obtain ⟨j, hj1, rfl, hq⟩ := hrel
    have HQ := hide hq
    clear hq
    by_cases hjl : j < D.length
    · have hjl' : (j : Int) < D.length := by omega
      have hL := HL.out.below HQ.out
      obtain ⟨k2, t2⟩ := HE.out j hjl
      have c1 := own_cell1 hL.row rfl hjl rfl
      have c2 := (HQ.out.cell (p := ⟨eb, j, none⟩) heb).trans k2
      have o1 : OwnS wr base (D[j]).v (AA j) := by
        have := hL.each j hjl
        rw [HDN.out j hjl] at this
        exact this
      obtain ⟨a1, d1, e1, t1, _⟩ := o1.shape
      rw [e1] at c1
      have hlo : lb < wr.heap.size := (World.ownsRow.lt hL.row lb rfl).2
      have hle : eb < wr.heap.size := ne_trans HQ.out heb
      have T1 := hide t1
      have T2 := hide (t2.below HQ.out)
      have hcl := HNA.out j
      generalize ea j = a2 at *
      generalize ec j = d2 at *
      have hsp := fun (W : World) (h1 : SpAt W a1 (AA j)) (h2 : SpAt W a2 (AA j)) => spans_any a1 a2 d1 d2 (AA j) (AA j) W (by omega) h1 h2
      rw [decide_eq_true rfl] at hsp
      generalize AA j = A at *
      have HDr : Hid (Below wr.heap.size wr wr.drew) := (Below.refl _ _).drew
      clear o1 e1 t1 t2 k2 hL
      go_wp2
      refine wp_region_quiet (C := fun w' => Below wr.heap.size wr w') (by kernel_rfl) (by kernel_rfl) HDr.out ?_
      refine QW.out (l := _ :: _) ?_
      iterate 8 (refine QW.take (by rfl) ?_; apply Exists.intro; refine ⟨fun w' hw' => ?_, ?_⟩; (· (have g1 := (hw'.cell (p := ⟨lb, j, none⟩) hlo).trans c1; have g2 := (hw'.cell (p := ⟨eb, j, none⟩) hle).trans c2; go_simp; first | done | (first | done | rfl))); try simp only [Act.put, List.setIfInBounds_toArray, List.set_cons_zero, List.set_cons_succ])
      iterate 1 (refine QW.take (by rfl) ?_; apply Exists.intro; refine ⟨fun w' hw' => ?_, ?_⟩; (· (have g1 := (hw'.cell (p := ⟨lb, j, none⟩) hlo).trans c1; have g2 := (hw'.cell (p := ⟨eb, j, none⟩) hle).trans c2; go_simp; (refine (hsp _ (T1.out.below hw') (T2.out.below hw')).mono ?_; rintro e w2 ⟨rfl, x2⟩; exact ⟨rfl, hw'.trans (x2.mono hw'.size)⟩))); try simp only [Act.put, List.setIfInBounds_toArray, List.set_cons_zero, List.set_cons_succ])
      iterate 1 (refine QW.take (by rfl) ?_; apply Exists.intro; refine ⟨fun w' hw' => ?_, ?_⟩; (· (have g1 := (hw'.cell (p := ⟨lb, j, none⟩) hlo).trans c1; have g2 := (hw'.cell (p := ⟨eb, j, none⟩) hle).trans c2; go_simp; first | done | (first | done | rfl))); try simp only [Act.put, List.setIfInBounds_toArray, List.set_cons_zero, List.set_cons_succ])
      refine QW.nil ?_
      intro w7 x7
      have X7 := hide (HQ.out.trans (x7.mono HQ.out.size))
      clear x7 c1 c2
      go_wp2
      go_roundw
      case rel => exact ⟨j + 1, by omega, by go_num, X7.out⟩
      case measure => simp [RowKit.intOf]; omega
    · have hjl' : ¬ (j : Int) < D.length := by omega
      have M0 : Mkd w base (.slice (some ⟨lb, 0, none⟩) D.length lcap) D 0 0 (fun j => spCells (AA j)) wr := ⟨HL.out.below HQ.out, fun i' _ h => by omega, fun j h => by omega, HQ.out.mono hb⟩
      clear HL HE HQ
      go_wp2
      go_loopw [7] (fun x wr => ∃ i : Nat, i ≤ D.length ∧ x = .int .i64 i ∧ ∃ X, Mkd w base (.slice (some ⟨lb, 0, none⟩) D.length lcap) D i 0 X wr) (fun x _ => D.length - (RowKit.intOf x).toNat)
      case atStart => exact ⟨0, Nat.zero_le _, rfl, _, M0⟩
      case round =>
        obtain ⟨i, hi1, rfl, X1, M1⟩ := hrel
        by_cases hlt : i < D.length
        · have hlt' : (i : Int) < D.length := by omega
          obtain ⟨ai, ci, hv, hpos⟩ := own_shape (M1.ls.each i hlt)
          have hnn := HN.out i hlt
          clear M0
          go_wp2
          go_loopw [8] (fun x wr => ∃ k : Nat, k ≤ (D[i]).n ∧ x = .int .i64 k ∧ ∃ X, Mkd w base (.slice (some ⟨lb, 0, none⟩) D.length lcap) D i k X wr) (fun x _ => (D[i]).n - (RowKit.intOf x).toNat)
          case atStart => exact ⟨0, Nat.zero_le _, rfl, X1, M1⟩
          case round =>
            obtain ⟨k, hk1, rfl, X2, M2⟩ := hrel
            have c0 := own_cell1 M2.ls.row rfl hlt rfl
            rw [hv] at c0
            clear M1
            by_cases hk : k < (D[i]).n
            · obtain ⟨g, rfl⟩ := hpos (by omega)
              have hstep : ∀ W, Below wr.heap.size wr W → _ := fun W x => (M2.onto hb x).step hlt hk hv
              have HST := hide hstep
              have hlo : lb < wr.heap.size := (World.ownsRow.lt M2.ls.row lb rfl).2
              have hgl : ¬ g = lb := fun h => own_ne M2.ls.row (M2.ls.each i hlt) (by decide) lb rfl (by rw [hv, h]; rfl)
              have hgl' : ¬ lb = g := fun h => hgl h.symm
              generalize (D[i]).n = n at *
              have hk' : (k : Int) < n := by omega
              have hmk := fun w => mark_b i (by omega) w
              clear hv M2 hstep
              go_wp2
              go_region_held3 (fun w' => w'.cell? ⟨lb, i, none⟩ = some (.slice (some ⟨g, 0, none⟩) n ci)) (first | assumption | (simp [go_sem, *]; done))
                (first
                  | (go_at_call 46; refine (hmk _).mono ?_; rintro e w8 ⟨rfl, x8⟩; have y8 : Below wr.heap.size wr w8 := ((Below.refl _ _).drew.trans x8); have g0 : w8.cell? ⟨lb, i, none⟩ = some (.slice (some ⟨g, 0, none⟩) n ci) := ((y8.cell (p := ⟨lb, i, none⟩) hlo).trans c0); obtain ⟨⟨u1, e1⟩, e2, ⟨u2, e3⟩, e4, X3, m3⟩ := HST.out w8 y8; have M3 := hide m3; clear x8 y8 m3))
              clear e1 e2 e3 e4 g0 c0
              go_wp2
              go_roundw
              case rel => exact ⟨k + 1, by omega, by go_num, X3, M3.out⟩
              case measure => simp [RowKit.intOf]; omega
            · have h8 : k = (D[i]).n := by omega
              have M3 : Mkd w base (.slice (some ⟨lb, 0, none⟩) D.length lcap) D (i + 1) 0 X2 wr := by rw [h8] at M2; exact M2.next hlt
              have hk' : ¬ (k : Int) < (D[i]).n := by omega
              generalize (D[i]).n = n at *
              clear hv M2 h8
              go_wp2
              go_roundw
              case rel => exact ⟨i + 1, by omega, by go_num, X2, M3⟩
              case measure => simp [RowKit.intOf]; omega
        · have h8 : i = D.length := by omega
          have hlt' : ¬ (i : Int) < D.length := by omega
          rw [h8] at M1
          have G1 := M1.out
          have B1 := hide M1.below
          clear M1 M0 h8
          go_wp2
          go_loopw [9, 10] (fun o x wr => ∃ i : Nat, i ≤ D.length ∧ x = .int .i64 i ∧ ∃ A, GrO 22 46 2 mcS wr base (.slice (some ⟨lb, 0, none⟩) D.length lcap) o D A i ∧ Below base w wr) (fun _ x _ => D.length - (RowKit.intOf x).toNat)
          case atStart => exact ⟨0, Nat.zero_le _, rfl, [], G1, B1.out⟩
          case round =>
            obtain ⟨i, hi1, rfl, A, G2, hb2⟩ := hrel
            have B2 := hide hb2
            clear hb2 G1 B1
            by_cases hlt : i < D.length
            · have hlt' : (i : Int) < D.length := by omega
              have hnn := HN.out i hlt
              have c0 := own_cell1 G2.row rfl hlt rfl
              have G3 := G2.enter hlt
              clear G2
              generalize (D[i]).n = n at *
              generalize (D[i]).v = xv at *
              have hmk := fun w => mark_b i (by omega) w
              go_wp2
              go_loopw [9, 11, 12] (fun o xx q wr => ∃ k : Nat, k ≤ 6 ∧ q = .int .i64 k ∧ ∃ A nx, nx ≤ n + k ∧ Gr 22 46 2 mcS wr base (.slice (some ⟨lb, 0, none⟩) D.length lcap) o D A i k xx nx ∧ Below base w wr) (fun _ _ q _ => 6 - (RowKit.intOf q).toNat)
              case atStart => exact ⟨0, Nat.zero_le _, rfl, A, n, Nat.le_refl _, G3, B2.out⟩
              case round =>
                obtain ⟨k, hk1, rfl, A4, nx, hnx, G4, hb4⟩ := hrel
                clear G3 B2 c0
                by_cases hk : k < 6
                · have hk' : (k : Int) < 6 := by omega
                  obtain ⟨ax, cx, hx, _⟩ := own_shape G4.own
                  subst hx
                  have hlen := G4.len
                  have HG5 := hide (G4.below ((Below.refl _ _).alloc (Nat.le_refl _) (.cells #[.slice ax nx cx] 22)))
                  have HB5 := hide (hb4.alloc (Nat.le_trans hb hb4.size) (.cells #[.slice ax nx cx] 22))
                  have HN5 : Hid (∀ j u, ([.slice ax nx cx] : List Value)[j]? = some u → (wr.alloc (.cells #[.slice ax nx cx] 22)).cell? ((⟨wr.heap.size, 0, none⟩ : Addr).add j) = some u) := by
                    intro j u hu
                    match j, hu with
                    | 0, hu => simp at hu; subst hu; simp [Addr.add]
                  have HS5 : Hid (base ≤ (wr.alloc (.cells #[.slice ax nx cx] 22)).heap.size) := Nat.le_trans hb HB5.out.size
                  have HNX : Hid (nx + 1 ≤ 8589934600 ∧ A4.length ≤ 6006) := ⟨by omega, by omega⟩
                  clear G4 hb4 hlen
                  go_wp2_with (first
                    | (at_builtin; refine wpList_append_view rfl (.tmp 69) (.tmp 71) 25 rfl base 22 i22 (.slice none 0 0) 1 24 Try.underlying25 hj hy0 hy1 hy2 rfl (by decide) _ A4.length (A4.map LD.v) rfl HG5.out.all ⟨wr.heap.size, 0, none⟩ 1 1 [.slice ax nx cx] rfl rfl HN5.out (by simp [Value.oneCell']) (by decide) (by have := HNX.out.2; unfold maxLen; omega) (by have := HNX.out.2; omega) HS5.out ?_; intro v8 w8 h1 h2; have hk8 : Kept (fun k => base ≤ k) (wr.alloc (.cells #[.slice ax nx cx] 22)) w8 := (appKept h2 HG5.out.all); have HG6 := hide (HG5.out.push mcS_len (by decide) hk h1 h2); have HB6 := hide (below_base HB5.out hk8 hb); clear h1 h2 hk8 HG5 HB5 HN5)
                    | (go_at_call 46; refine (hmk _).mono ?_; rintro e w9 ⟨rfl, x9⟩; have HG8 := hide ((HG6.out.below x9).below ((Below.refl _ w9).alloc (Nat.le_refl _) (.cells #[.int .i64 (-1 - (i : Int)), .int .i64 (i : Int)] 46))); have hb8 := HB6.out.trans (x9.mono (Nat.le_trans hb HB6.out.size)); have HB8 := hide (hb8.alloc (Nat.le_trans hb hb8.size) (.cells #[.int .i64 (-1 - (i : Int)), .int .i64 (i : Int)] 46)); have HN8 := hide (new_cells w9 (-1 - (i : Int), (i : Int)) w9.heap.size rfl); clear x9 hb8 HG6 HB6)
                    | (at_builtin; refine wpList_append_view rfl (.tmp 73) (.tmp 76) 22 rfl base 46 i46 (.agg #[.int .i64 0, .int .i64 0]) 2 16 Try.underlying22 hi hz0 hz1 hz2 rfl (by decide) _ nx (rep mcS i nx) rfl HG8.out.own ⟨w9.heap.size, 0, none⟩ 1 1 (mcS i) rfl rfl HN8.out (by simp [mcS, Value.oneCell']) (by decide) (by have := HNX.out.1; unfold maxLen; omega) (by have := HNX.out.1; omega) (Nat.le_trans hb HB8.out.size) ?_; intro v10 w10 h1 h2; have hk9 : Kept (fun k => base ≤ k) (w9.alloc (.cells #[.int .i64 (-1 - (i : Int)), .int .i64 (i : Int)] 46)) w10 := (appKept h2 HG8.out.own); have HG7 := hide (HG8.out.grow mcS_len (by decide) h1 h2); have HB7 := hide (below_base HB8.out hk9 hb); clear h1 h2 hk9))
                  go_roundw
                  case rel => exact ⟨k + 1, by omega, by go_num, _, _, by omega, HG7.out, HB7.out⟩
                  case measure => simp [RowKit.intOf]; omega
                · have hk' : ¬ (k : Int) < 6 := by omega
                  have h6 : k = 6 := by omega
                  have G5 : GrO 22 46 2 mcS wr base (.slice (some ⟨lb, 0, none⟩) D.length lcap) u9 D A4 (i + 1) := by rw [h6] at G4; exact G4.leave
                  clear G4 h6
                  go_wp2
                  go_roundw
                  case rel => exact ⟨i + 1, by omega, by go_num, A4, G5, hb4⟩
                  case measure => simp [RowKit.intOf]; omega
            · have hlt' : ¬ (i : Int) < D.length := by omega
              obtain ⟨ao, co, ho, hpos⟩ := own_shape G2.all
              subst ho
              have hlen := G2.len
              rename World => wE
              go_wp2
              go_loopw [13] (fun x wz => ∃ j : Nat, j ≤ A.length ∧ x = .int .i64 j ∧ Below wE.heap.size wE wz) (fun x _ => A.length - (RowKit.intOf x).toNat)
              case atStart => exact ⟨0, Nat.zero_le _, rfl, Below.refl _ _⟩
              case round =>
                obtain ⟨j, hj1, rfl, hq⟩ := hrel
                have HQ := hide hq
                clear hq
                by_cases hlj : j < A.length
                · have hlj' : (j : Int) < A.length := by omega
                  obtain ⟨lo, rfl⟩ := hpos (by omega)
                  have k0 := own_cell1 G2.all rfl hlj rfl
                  have hvw := (G2.views j hlj).1
                  have hnm := hvw.le
                  unfold maxLen at hnm
                  obtain ⟨av, cv, hv, hcs⟩ := hvw.shape
                  have hgt := hvw.lt
                  rw [hv] at k0 hgt
                  have hlo : lo < wE.heap.size := (World.ownsRow.lt G2.all lo rfl).2
                  generalize (A[j]).n = n at *
                  have HCS := hide hcs
                  have HGT := hide hgt
                  have HLJ : Hid (j + 1 ≤ A.length) := hlj
                  have hmk := fun w => mark_b (j / 6) (by omega) w
                  rw [show ((j / 6 : Nat) : Int) = (j : Int) / 6 by omega] at hmk
                  have HK0 := hide k0
                  clear hvw hv hcs hgt
                  go_wp2
                  go_loopw [14] (fun x wz => ∃ k : Nat, k ≤ n ∧ x = .int .i64 k ∧ Below wE.heap.size wE wz) (fun x _ => n - (RowKit.intOf x).toNat)
                  case atStart => exact ⟨0, Nat.zero_le _, rfl, HQ.out⟩
                  case round =>
                    obtain ⟨k, hk1, rfl, hq2⟩ := hrel
                    have c0 := (hq2.cell (p := ⟨lo, j, none⟩) hlo).trans HK0.out
                    have HQ2 := hide hq2
                    clear hq2
                    have hlor : lo < wr.heap.size := ne_trans HQ2.out hlo
                    by_cases hk : k < n
                    · have hk' : (k : Int) < n := by omega
                      obtain ⟨g, rfl, hc⟩ := HCS.out.resolve_left (by omega)
                      have hg : g < wE.heap.size := HGT.out g rfl
                      have hgr : g < wr.heap.size := ne_trans HQ2.out hg
                      have c1 := (HQ2.out.cell (p := ⟨g, k * 2, none⟩) hg).trans (hc (k * 2) (by omega))
                      have c2 := (HQ2.out.cell (p := ⟨g, k * 2 + 1, none⟩) hg).trans (hc (k * 2 + 1) (by omega))
                      rw [show (k * 2) % 2 = 0 by omega] at c1
                      rw [show (k * 2 + 1) % 2 = 1 by omega] at c2
                      rw [show (mcS (j / 6))[0]? = some (.int .i64 (-1 - ((j : Int) / 6))) by simp [mcS]] at c1
                      rw [show (mcS (j / 6))[1]? = some (.int .i64 ((j : Int) / 6)) by simp [mcS]] at c2
                      have HDr : Hid (Below wr.heap.size wr wr.drew) := (Below.refl _ _).drew
                      have hq6 : (j : Int).tdiv 6 = (j : Int) / 6 := Int.tdiv_eq_ediv_of_nonneg (by omega)
                      have fw6 : IntKind.i64.wrap ((j : Int) / 6) = (j : Int) / 6 := by simp [IntKind.wrap, IntKind.bits, IntKind.signed]; omega
                      clear hc HK0
                      go_wp2
                      refine wp_region_quiet (C := fun w' => Below wr.heap.size wr w') (by kernel_rfl) (by kernel_rfl) HDr.out ?_
                      refine QW.out (l := _ :: _) ?_
                      iterate 9 (refine QW.take (by rfl) ?_; apply Exists.intro; refine ⟨fun w' hw' => ?_, ?_⟩; (· (have g0 := (hw'.cell (p := ⟨lo, j, none⟩) hlor).trans c0; have g1 := (hw'.cell (p := ⟨g, k * 2, none⟩) hgr).trans c1; have g2 := (hw'.cell (p := ⟨g, k * 2 + 1, none⟩) hgr).trans c2; go_simp; first | done | (first | done | rfl))); try simp only [Act.put, List.setIfInBounds_toArray, List.set_cons_zero, List.set_cons_succ])
                      iterate 1 (refine QW.take (by rfl) ?_; apply Exists.intro; refine ⟨fun w' hw' => ?_, ?_⟩; (· (have g0 := (hw'.cell (p := ⟨lo, j, none⟩) hlor).trans c0; have g1 := (hw'.cell (p := ⟨g, k * 2, none⟩) hgr).trans c1; have g2 := (hw'.cell (p := ⟨g, k * 2 + 1, none⟩) hgr).trans c2; go_simp; (refine (hmk _).mono ?_; rintro e w2 ⟨rfl, x2⟩; exact ⟨rfl, hw'.trans (x2.mono hw'.size)⟩))); try simp only [Act.put, List.setIfInBounds_toArray, List.set_cons_zero, List.set_cons_succ])
                      iterate 1 (refine QW.take (by rfl) ?_; apply Exists.intro; refine ⟨fun w' hw' => ?_, ?_⟩; (· (have g0 := (hw'.cell (p := ⟨lo, j, none⟩) hlor).trans c0; have g1 := (hw'.cell (p := ⟨g, k * 2, none⟩) hgr).trans c1; have g2 := (hw'.cell (p := ⟨g, k * 2 + 1, none⟩) hgr).trans c2; go_simp; first | done | (first | done | rfl))); try simp only [Act.put, List.setIfInBounds_toArray, List.set_cons_zero, List.set_cons_succ])
                      refine QW.nil ?_
                      intro w7 x7
                      have X7 := hide (HQ2.out.trans (x7.mono HQ2.out.size))
                      clear x7 c0 c1 c2
                      go_wp2
                      go_roundw
                      case rel => exact ⟨k + 1, by omega, by go_num, X7.out⟩
                      case measure => simp [RowKit.intOf]; omega
                    · have hk' : ¬ (k : Int) < n := by omega
                      go_wp2
                      go_roundw
                      case rel => exact ⟨j + 1, HLJ.out, by go_num, HQ2.out⟩
                      case measure => have := HLJ.out; simp [RowKit.intOf]; omega
                · have hlj' : ¬ (j : Int) < A.length := by omega
                  go_wp2
                  go_ret
                  exact ⟨rfl, B2.out.trans (HQ.out.mono (Nat.le_trans hb B2.out.size))⟩
end Go.Proofs.Ytljagefcgijmlaa
