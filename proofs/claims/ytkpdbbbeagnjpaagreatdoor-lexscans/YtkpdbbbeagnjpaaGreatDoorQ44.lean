/-
  The statement's apart, walked: lists of tokens, each in a block of its own, that read as wanted, are apart. Condition: few lists, each no longer than 2^32.
-/
import Derived.Test.YtkpdbbbeagnjpaaGreatDoorQ43
import Derived.Deep.DeepCutAuto
import Derived.Deep.CutBlock
namespace Go.Proofs.YtkpdbbbeagnjpaaGreatDoor
open Go.RowKit Go.Lib

def mcT (i : Nat) : List Value := [.int .i64 (-1 - (i : Int)), .string ⟨#[]⟩, .int .i64 0, .int .i64 0, .int .i64 0, .int .i64 0]
theorem mcT_len (i : Nat) : (mcT i).length = 6 := rfl
theorem Tryz.info26s : (Tryz.prog.info? 26).map (fun i => (i.zero, i.size, i.bytes)) = some (some (.slice none 0 0), 1, 24) := by kernel_rfl
theorem appKept {w w' : World} {base size n : Nat} {e : TypeId} {v v' : Value} {xs : List Value} (h : AppAt w w' v v') (ho : w.ownsRow base e size v n xs) : Kept (fun k => base ≤ k) w w' := by
  rcases h with ⟨g, a, b, c⟩ | ⟨a, b⟩
  · exact (kept_of_grown c).mono (fun k hk => by cases hk; exact (World.ownsRow.lt ho g a).1)
  · exact Kept.of_below (below_of_grown a)
theorem below_base {base : Nat} {w a b : World} (h : Below base w a) (k : Kept (fun k => base ≤ k) a b) (hb : base ≤ w.heap.size) : Below base w b :=
  h.trans (k.below (Nat.le_trans hb h.size) (fun _ h => h))
theorem ne_trans {b : Nat} {w w' : World} (h : Below w.heap.size w w') (hb : b < w.heap.size) : b < w'.heap.size := Nat.lt_of_lt_of_le hb h.size
def marked (mc : Nat → List Value) (D : List LD) : Nat → List Value := fun i => rep mc i ((D[i]?.map LD.n).getD 0)
/-- Six cells of a row, stored. -/
theorem row_st6 {w : World} {base n cap g : Nat} {T : TypeId} {xs : List Value} (h : w.ownsRow base T 6 (.slice (some ⟨g, 0, none⟩) n cap) n xs) {k : Nat} (hk : k < n) (a b c d e f : Value) :
    (∃ u, w.cell? ⟨g, k * 6, none⟩ = some u) ∧ w.frozen? ⟨g, k * 6, none⟩ = false ∧ (∃ u, (w.setCell ⟨g, k * 6, none⟩ a).cell? ⟨g, k * 6 + 1, none⟩ = some u) ∧ (w.setCell ⟨g, k * 6, none⟩ a).frozen? ⟨g, k * 6 + 1, none⟩ = false ∧ (∃ u, ((w.setCell ⟨g, k * 6, none⟩ a).setCell ⟨g, k * 6 + 1, none⟩ b).cell? ⟨g, k * 6 + 2, none⟩ = some u) ∧ ((w.setCell ⟨g, k * 6, none⟩ a).setCell ⟨g, k * 6 + 1, none⟩ b).frozen? ⟨g, k * 6 + 2, none⟩ = false ∧ (∃ u, (((w.setCell ⟨g, k * 6, none⟩ a).setCell ⟨g, k * 6 + 1, none⟩ b).setCell ⟨g, k * 6 + 2, none⟩ c).cell? ⟨g, k * 6 + 3, none⟩ = some u) ∧ (((w.setCell ⟨g, k * 6, none⟩ a).setCell ⟨g, k * 6 + 1, none⟩ b).setCell ⟨g, k * 6 + 2, none⟩ c).frozen? ⟨g, k * 6 + 3, none⟩ = false ∧ (∃ u, ((((w.setCell ⟨g, k * 6, none⟩ a).setCell ⟨g, k * 6 + 1, none⟩ b).setCell ⟨g, k * 6 + 2, none⟩ c).setCell ⟨g, k * 6 + 3, none⟩ d).cell? ⟨g, k * 6 + 4, none⟩ = some u) ∧ ((((w.setCell ⟨g, k * 6, none⟩ a).setCell ⟨g, k * 6 + 1, none⟩ b).setCell ⟨g, k * 6 + 2, none⟩ c).setCell ⟨g, k * 6 + 3, none⟩ d).frozen? ⟨g, k * 6 + 4, none⟩ = false ∧ (∃ u, (((((w.setCell ⟨g, k * 6, none⟩ a).setCell ⟨g, k * 6 + 1, none⟩ b).setCell ⟨g, k * 6 + 2, none⟩ c).setCell ⟨g, k * 6 + 3, none⟩ d).setCell ⟨g, k * 6 + 4, none⟩ e).cell? ⟨g, k * 6 + 5, none⟩ = some u) ∧ (((((w.setCell ⟨g, k * 6, none⟩ a).setCell ⟨g, k * 6 + 1, none⟩ b).setCell ⟨g, k * 6 + 2, none⟩ c).setCell ⟨g, k * 6 + 3, none⟩ d).setCell ⟨g, k * 6 + 4, none⟩ e).frozen? ⟨g, k * 6 + 5, none⟩ = false ∧
    ((((((w.setCell ⟨g, k * 6, none⟩ a).setCell ⟨g, k * 6 + 1, none⟩ b).setCell ⟨g, k * 6 + 2, none⟩ c).setCell ⟨g, k * 6 + 3, none⟩ d).setCell ⟨g, k * 6 + 4, none⟩ e).setCell ⟨g, k * 6 + 5, none⟩ f).ownsRow base T 6 (.slice (some ⟨g, 0, none⟩) n cap) n (setL xs (k * 6) [a, b, c, d, e, f]) ∧ Kept (fun j => some g = some j) w ((((((w.setCell ⟨g, k * 6, none⟩ a).setCell ⟨g, k * 6 + 1, none⟩ b).setCell ⟨g, k * 6 + 2, none⟩ c).setCell ⟨g, k * 6 + 3, none⟩ d).setCell ⟨g, k * 6 + 4, none⟩ e).setCell ⟨g, k * 6 + 5, none⟩ f) := by
  have hl := h.1
  obtain ⟨p0, q0⟩ := h.stored (k * 6) a
  obtain ⟨p1, q1⟩ := p0.stored (k * 6 + 1) b
  obtain ⟨p2, q2⟩ := p1.stored (k * 6 + 2) c
  obtain ⟨p3, q3⟩ := p2.stored (k * 6 + 3) d
  obtain ⟨p4, q4⟩ := p3.stored (k * 6 + 4) e
  obtain ⟨p5, q5⟩ := p4.stored (k * 6 + 5) f
  refine ⟨⟨xs[k * 6]'(by (try simp only [List.length_set]); omega), ?_⟩, h.frozenAt _, ⟨(xs.set (k * 6) a)[k * 6 + 1]'(by (try simp only [List.length_set]); omega), ?_⟩, p0.frozenAt _, ⟨((xs.set (k * 6) a).set (k * 6 + 1) b)[k * 6 + 2]'(by (try simp only [List.length_set]); omega), ?_⟩, p1.frozenAt _, ⟨(((xs.set (k * 6) a).set (k * 6 + 1) b).set (k * 6 + 2) c)[k * 6 + 3]'(by (try simp only [List.length_set]); omega), ?_⟩, p2.frozenAt _, ⟨((((xs.set (k * 6) a).set (k * 6 + 1) b).set (k * 6 + 2) c).set (k * 6 + 3) d)[k * 6 + 4]'(by (try simp only [List.length_set]); omega), ?_⟩, p3.frozenAt _, ⟨(((((xs.set (k * 6) a).set (k * 6 + 1) b).set (k * 6 + 2) c).set (k * 6 + 3) d).set (k * 6 + 4) e)[k * 6 + 5]'(by (try simp only [List.length_set]); omega), ?_⟩, p4.frozenAt _, p5, ((((((kept_of_grown q0).trans (kept_of_grown q1)).trans (kept_of_grown q2)).trans (kept_of_grown q3)).trans (kept_of_grown q4)).trans (kept_of_grown q5))⟩
  · rw [h.cellAt (k * 6) (by omega)]; exact List.getElem?_eq_getElem _
  · rw [p0.cellAt (k * 6 + 1) (by omega)]; exact List.getElem?_eq_getElem _
  · rw [p1.cellAt (k * 6 + 2) (by omega)]; exact List.getElem?_eq_getElem _
  · rw [p2.cellAt (k * 6 + 3) (by omega)]; exact List.getElem?_eq_getElem _
  · rw [p3.cellAt (k * 6 + 4) (by omega)]; exact List.getElem?_eq_getElem _
  · rw [p4.cellAt (k * 6 + 5) (by omega)]; exact List.getElem?_eq_getElem _
set_option maxRecDepth 100000 in
set_option maxHeartbeats 2000000 in
theorem apartT_any (w : World) (base lb lcap eb ecap : Nat) (D : List LD) (TT : Nat → List Tk) (ev : Nat → Value) (hls : LsAt 26 40 6 w base (.slice (some ⟨lb, 0, none⟩) D.length lcap) D (fun j => tkC (TT j)))
    (hdn : ∀ j (h : j < D.length), (D[j]).n = (TT j).length) (heb : eb < w.heap.size) (hwe : ∀ j, j < D.length → w.cell? ⟨eb, j, none⟩ = some (ev j) ∧ w.ownsRow base 40 6 (ev j) (TT j).length (tkC (TT j)))
    (hb : base ≤ w.heap.size) (hD : D.length ≤ 1000) (hn : ∀ j, (TT j).length ≤ 4294967296) :
    Calls Tryz.prog 11 #[(.slice (some ⟨lb, 0, none⟩) D.length lcap), .slice (some ⟨eb, 0, none⟩) D.length ecap] w fun e w' => e = .returned (.bool true) ∧ Below base w w' := by
  obtain ⟨i40, hi40, hz0, hz1, hz2⟩ := info_parts Tryz.info40n
  obtain ⟨i26, hi26, hy0, hy1, hy2⟩ := info_parts Tryz.info26s
  have HN : Hid (∀ i (h : i < D.length), (D[i]).n ≤ 4294967296) := fun i h => by rw [hdn i h]; exact hn i
  have HL := hide hls
  have HE := hide hwe
  have HDN := hide hdn
  have HNA := hide hn
  clear hls hwe hdn hn
  go_enter Tryz.func11, Tryz.ntmps11
  go_upto_block 0 with fail
  go_cut [5, 6] (fun _ _ wx => Hid (Below w.heap.size w wx))
  case first =>
    go_wp2
    go_loopw [5] (fun x wq => ∃ j : Nat, j ≤ D.length ∧ x = .int .i64 j ∧ Hid (Below w.heap.size w wq)) (fun x _ => D.length - (RowKit.intOf x).toNat)
    case atStart => exact ⟨0, Nat.zero_le _, rfl, Below.refl _ _⟩
    case round =>
      obtain ⟨j, hj1, rfl, HQ⟩ := hrel
      by_cases hjl : j < D.length
      · have hjl' : (j : Int) < D.length := by omega
        have hL := HL.out.below HQ.out
        obtain ⟨k2, t2⟩ := HE.out j hjl
        have c1 := own_cell1 hL.row rfl hjl rfl
        have c2 := (HQ.out.cell (p := ⟨eb, j, none⟩) heb).trans k2
        have o1 := hL.each j hjl
        rw [HDN.out j hjl] at o1
        have T1 := hide o1
        have T2 := hide (own_below t2 HQ.out)
        have hcl := HNA.out j
        have hlo : lb < wr.heap.size := (World.ownsRow.lt hL.row lb rfl).2
        have hle : eb < wr.heap.size := ne_trans HQ.out heb
        generalize ev j = v2 at *
        generalize (D[j]).v = v1 at *
        have hsp := fun (W : World) (x : Below wr.heap.size wr W) => same_any (TT j) v1 v2 base base W (own_below T1.out x) (own_below T2.out x) hcl
        have HSP := hide hsp
        generalize TT j = A at *
        have HDr : Hid (Below wr.heap.size wr wr.drew) := (Below.refl _ _).drew
        clear o1 t2 k2 hL hsp T1 T2
        go_upto_region 4 with fail
        refine wp_region_quiet (C := fun w' => Below wr.heap.size wr w') (by kernel_rfl) (by kernel_rfl) HDr.out ?_
        refine QW.out (l := _ :: _) ?_
        iterate 8 (refine QW.take (by rfl) ?_; apply Exists.intro; refine ⟨fun w' hw' => ?_, ?_⟩; (· (have g1 := (hw'.cell (p := ⟨lb, j, none⟩) hlo).trans c1; have g2 := (hw'.cell (p := ⟨eb, j, none⟩) hle).trans c2; go_simp; first | done | rfl)); try simp only [Act.put, List.setIfInBounds_toArray, List.set_cons_zero, List.set_cons_succ])
        iterate 1 (refine QW.take (by rfl) ?_; apply Exists.intro; refine ⟨fun w' hw' => ?_, ?_⟩; (· (have g1 := (hw'.cell (p := ⟨lb, j, none⟩) hlo).trans c1; have g2 := (hw'.cell (p := ⟨eb, j, none⟩) hle).trans c2; go_simp; (refine (HSP.out _ hw').mono ?_; rintro e w2 ⟨rfl, x2⟩; exact ⟨rfl, hw'.trans (x2.mono hw'.size)⟩))); try simp only [Act.put, List.setIfInBounds_toArray, List.set_cons_zero, List.set_cons_succ])
        iterate 1 (refine QW.take (by rfl) ?_; apply Exists.intro; refine ⟨fun w' hw' => ?_, ?_⟩; (· (have g1 := (hw'.cell (p := ⟨lb, j, none⟩) hlo).trans c1; have g2 := (hw'.cell (p := ⟨eb, j, none⟩) hle).trans c2; go_simp; first | done | rfl)); try simp only [Act.put, List.setIfInBounds_toArray, List.set_cons_zero, List.set_cons_succ])
        refine QW.nil ?_
        intro w7 x7
        have X7 := hide (HQ.out.trans (x7.mono HQ.out.size))
        clear x7 c1 c2
        go_wp2
        go_roundw
        case rel => exact ⟨j + 1, by omega, by go_num, X7⟩
        case measure => simp [RowKit.intOf]; omega
      · have hjl' : ¬ (j : Int) < D.length := by omega
        go_wp2
        go_meet
        exact HQ
  case rest =>
    have XB := hide (hcut.out.mono hb)
    have HL1 := hide (HL.out.below hcut.out)
    have HWB : Hid (base ≤ wc.heap.size) := Nat.le_trans hb hcut.out.size
    clear hcut HL HE HNA HDN
    go_upto_block 2 with fail
    go_cut [7, 8] (fun _ _ wx => Hid (LsAt 26 40 6 wx base (.slice (some ⟨lb, 0, none⟩) D.length lcap) D (marked mcT D)) ∧ Hid (Below base w wx))
    case first =>
      go_wp2
      go_loopw [7] (fun x wr => ∃ i : Nat, i ≤ D.length ∧ x = .int .i64 i ∧ ∃ X, Hid (Mkg 26 40 6 mcT wc base (.slice (some ⟨lb, 0, none⟩) D.length lcap) D i 0 X wr)) (fun x _ => D.length - (RowKit.intOf x).toNat)
      case atStart => exact ⟨0, Nat.zero_le _, rfl, _, hide (Mkg.start HL1.out)⟩
      case round =>
        obtain ⟨i, hi1, rfl, X1, M1⟩ := hrel
        by_cases hlt : i < D.length
        · have hlt' : (i : Int) < D.length := by omega
          obtain ⟨ai, ci, hv, hpos⟩ := own_shape (M1.out.ls.each i hlt)
          have hnn := HN.out i hlt
          go_wp2
          go_loopw [8] (fun x wr => ∃ k : Nat, k ≤ (D[i]).n ∧ x = .int .i64 k ∧ ∃ X, Hid (Mkg 26 40 6 mcT wc base (.slice (some ⟨lb, 0, none⟩) D.length lcap) D i k X wr)) (fun x _ => (D[i]).n - (RowKit.intOf x).toNat)
          case atStart => exact ⟨0, Nat.zero_le _, rfl, X1, M1⟩
          case round =>
            obtain ⟨k, hk1, rfl, X2, M2⟩ := hrel
            clear M1
            have c9 := own_cell1 M2.out.ls.row rfl hlt rfl
            rw [hv] at c9
            by_cases hk : k < (D[i]).n
            · obtain ⟨g, rfl⟩ := hpos (by omega)
              have ho := M2.out.ls.each i hlt
              have HST := hide (fun (W' : World) (h1 : W'.ownsRow base 40 6 (D[i]).v (D[i]).n (setL (X2 i) (k * 6) (mcT i))) (h2 : Kept (fun j => (D[i]).v.ownBlock = some j) wr W') => M2.out.step mcT_len (by decide) hlt hk h1 h2 HWB.out)
              rw [hv] at ho HST
              obtain ⟨⟨u0, e0⟩, f0, ⟨u1, e1⟩, f1, ⟨u2, e2⟩, f2, ⟨u3, e3⟩, f3, ⟨u4, e4⟩, f4, ⟨u5, e5⟩, f5, o9, k9⟩ := row_st6 ho hk (.int .i64 (-1 - (i : Int))) (.string ⟨#[]⟩) (.int .i64 0) (.int .i64 0) (.int .i64 0) (.int .i64 0)
              obtain ⟨X3, M3⟩ := HST.out _ o9 k9
              have M3 := hide M3
              have fw : IntKind.i64.wrap (-1 - (i : Int)) = -1 - (i : Int) := by simp [IntKind.wrap, IntKind.bits, IntKind.signed]; omega
              generalize (D[i]).n = n at *
              have hk' : (k : Int) < n := by omega
              clear hv ho HST o9 k9 M2
              go_wp2
              go_roundw
              case rel => exact ⟨k + 1, by omega, by go_num, X3, M3⟩
              case measure => simp [RowKit.intOf]; omega
            · have h8 : k = (D[i]).n := by omega
              have M3 : Hid (Mkg 26 40 6 mcT wc base (.slice (some ⟨lb, 0, none⟩) D.length lcap) D (i + 1) 0 X2 wr) := by have := M2.out; rw [h8] at this; exact this.next mcT_len hlt
              have hk' : ¬ (k : Int) < (D[i]).n := by omega
              generalize (D[i]).n = n at *
              clear hv M2 h8
              go_wp2
              go_roundw
              case rel => exact ⟨i + 1, by omega, by go_num, X2, M3⟩
              case measure => simp [RowKit.intOf]; omega
        · have h8 : i = D.length := by omega
          have hlt' : ¬ (i : Int) < D.length := by omega
          have M2 : Hid (Mkg 26 40 6 mcT wc base (.slice (some ⟨lb, 0, none⟩) D.length lcap) D D.length 0 X1 wr) := by have := M1.out; rw [h8] at this; exact this
          clear M1 h8
          go_wp2
          go_meet
          exact ⟨hide M2.out.out, hide (XB.out.trans M2.out.below)⟩
    case rest =>
      obtain ⟨HL2, XB2⟩ := hcut
      clear XB HWB HL1
      have XB := XB2
      go_upto_block 6 with fail
      go_cut [9, 10, 11, 12] (fun o _ _ _ wx => ∃ o3 A, o3 = o ∧ Hid (KrO 5 26 40 6 mcT wx base (.slice (some ⟨lb, 0, none⟩) D.length lcap) o3 D A D.length) ∧ Hid (Below base w wx))
      case first =>
        go_wp2
        go_loopw [9, 10] (fun o x wr => ∃ i : Nat, i ≤ D.length ∧ x = .int .i64 i ∧ ∃ A, Hid (KrO 5 26 40 6 mcT wr base (.slice (some ⟨lb, 0, none⟩) D.length lcap) o D A i) ∧ Hid (Below base w wr)) (fun _ x _ => D.length - (RowKit.intOf x).toNat)
        case atStart => exact ⟨0, Nat.zero_le _, rfl, [], hide (KrO.start HL2.out), XB⟩
        case round =>
          obtain ⟨i, hi1, rfl, A, G2, B2⟩ := hrel
          by_cases hlt : i < D.length
          · have hlt' : (i : Int) < D.length := by omega
            have hnn := HN.out i hlt
            have c9 := own_cell1 G2.out.row rfl hlt rfl
            have G3 := hide (G2.out.enter hlt)
            clear G2
            have fw : IntKind.i64.wrap (-1 - (i : Int)) = -1 - (i : Int) := by simp [IntKind.wrap, IntKind.bits, IntKind.signed]; omega
            generalize (D[i]).n = n at *
            generalize (D[i]).v = xv at *
            go_wp2
            go_loopw [9, 11, 12] (fun o xx q wr => ∃ k : Nat, k ≤ 5 ∧ q = .int .i64 k ∧ ∃ A nx, nx ≤ n + k ∧ Hid (Kr 5 26 40 6 mcT wr base (.slice (some ⟨lb, 0, none⟩) D.length lcap) o D A i k xx nx) ∧ Hid (Below base w wr)) (fun _ _ q _ => 5 - (RowKit.intOf q).toNat)
            case atStart => exact ⟨0, Nat.zero_le _, rfl, A, n, Nat.le_refl _, G3, B2⟩
            case round =>
              obtain ⟨k, hk1, rfl, A4, nx, hnx, G4, B4⟩ := hrel
              clear G3 B2 c9
              by_cases hk : k < 5
              · have hk' : (k : Int) < 5 := by omega
                obtain ⟨ax, cx, hx, _⟩ := own_shape G4.out.own
                subst hx
                have hlen := G4.out.len
                have HG5 := hide (G4.out.below (al (Below.refl _ wr) (.cells #[.int .i64 (-1 - (i : Int)), .string ⟨#[]⟩, .int .i64 0, .int .i64 0, .int .i64 0, .int .i64 0] 40)))
                have HB5 := hide (B4.out.alloc (Nat.le_trans hb B4.out.size) (.cells #[.int .i64 (-1 - (i : Int)), .string ⟨#[]⟩, .int .i64 0, .int .i64 0, .int .i64 0, .int .i64 0] 40))
                have HN5 : Hid (∀ j u, ([.int .i64 (-1 - (i : Int)), .string ⟨#[]⟩, .int .i64 0, .int .i64 0, .int .i64 0, .int .i64 0] : List Value)[j]? = some u → (wr.alloc (.cells #[.int .i64 (-1 - (i : Int)), .string ⟨#[]⟩, .int .i64 0, .int .i64 0, .int .i64 0, .int .i64 0] 40)).cell? ((⟨wr.heap.size, 0, none⟩ : Addr).add j) = some u) := by
                  intro j u hu
                  match j, hu with
                  | 0, hu => simp at hu; subst hu; simp [Addr.add]
                  | 1, hu => simp at hu; subst hu; simp [Addr.add]
                  | 2, hu => simp at hu; subst hu; simp [Addr.add]
                  | 3, hu => simp at hu; subst hu; simp [Addr.add]
                  | 4, hu => simp at hu; subst hu; simp [Addr.add]
                  | 5, hu => simp at hu; subst hu; simp [Addr.add]
                have HS5 : Hid (base ≤ (wr.alloc (.cells #[.int .i64 (-1 - (i : Int)), .string ⟨#[]⟩, .int .i64 0, .int .i64 0, .int .i64 0, .int .i64 0] 40)).heap.size) := Nat.le_trans hb HB5.out.size
                have HNX : Hid (nx + 1 ≤ 4294967400 ∧ A4.length ≤ 5005) := ⟨by omega, by omega⟩
                have HN8 : Hid (∀ (W : World) (x : Value) j u, ([x] : List Value)[j]? = some u → (W.alloc (.cells #[x] 26)).cell? ((⟨W.heap.size, 0, none⟩ : Addr).add j) = some u) := by
                  intro W x j u hu
                  match j, hu with
                  | 0, hu => simp at hu; subst hu; simp [Addr.add]
                clear G4 B4 hlen
                go_upto_region 23 with (at_builtin; refine wpList_append_view rfl (.tmp 70) (.tmp 74) 26 rfl base 40 i40 (.agg #[.int .i64 0, .string ⟨#[]⟩, .int .i64 0, .int .i64 0, .int .i64 0, .int .i64 0]) 6 56 Tryz.underlying26 hi40 hz0 hz1 hz2 rfl (by decide) _ nx (rep mcT i nx) rfl HG5.out.own ⟨wr.heap.size, 0, none⟩ 1 1 (mcT i) rfl rfl HN5.out (by simp [mcT, Value.oneCell']) (by decide) (by have := HNX.out.1; unfold maxLen; omega) (by have := HNX.out.1; omega) HS5.out ?_; intro v8 w8 h1 h2; have hk8 : Kept (fun k => base ≤ k) (wr.alloc (.cells #[.int .i64 (-1 - (i : Int)), .string ⟨#[]⟩, .int .i64 0, .int .i64 0, .int .i64 0, .int .i64 0] 40)) w8 := (appKept h2 HG5.out.own); have HG6 := hide (HG5.out.grow mcT_len (by decide) h1 h2); have HB6 := hide (below_base HB5.out hk8 hb); clear h1 h2 hk8 HG5 HB5 HN5 HS5)
                obtain ⟨ay, cy, hy, _⟩ := own_shape HG6.out.own
                subst hy
                have HG8 := hide (HG6.out.below (al (Below.refl _ w8) (.cells #[.slice ay (nx + 1) cy] 26)))
                have HB8 := hide (HB6.out.alloc (Nat.le_trans hb HB6.out.size) (.cells #[.slice ay (nx + 1) cy] 26))
                have HP8 := hide (HN8.out w8 (.slice ay (nx + 1) cy))
                clear HG6 HB6 HN8
                go_wp2_with (at_builtin; refine wpList_append_view rfl (.tmp 76) (.tmp 78) 25 rfl base 26 i26 (.slice none 0 0) 1 24 Tryz.underlying25 hi26 hy0 hy1 hy2 rfl (by decide) _ A4.length (A4.map LD.v) rfl HG8.out.all ⟨w8.heap.size, 0, none⟩ 1 1 [.slice ay (nx + 1) cy] rfl rfl HP8.out (by simp [Value.oneCell']) (by decide) (by have := HNX.out.2; unfold maxLen; omega) (by have := HNX.out.2; omega) (Nat.le_trans hb HB8.out.size) ?_; intro v10 w10 h1 h2; have hk9 : Kept (fun k => base ≤ k) (w8.alloc (.cells #[.slice ay (nx + 1) cy] 26)) w10 := (appKept h2 HG8.out.all); have HG7 := hide (HG8.out.push mcT_len (by decide) hk h1 h2); have HB7 := hide (below_base HB8.out hk9 hb); clear h1 h2 hk9)
                go_roundw
                case rel => exact ⟨k + 1, by omega, by go_num, _, _, by omega, HG7, HB7⟩
                case measure => simp [RowKit.intOf]; omega
              · have hk' : ¬ (k : Int) < 5 := by omega
                have h6 : k = 5 := by omega
                have G5 := hide (Kr.leave (by have := G4.out; rw [h6] at this; exact this))
                clear G4 h6
                go_wp2
                go_roundw
                case rel => exact ⟨i + 1, by omega, by go_num, A4, G5, B4⟩
                case measure => simp [RowKit.intOf]; omega
          · have h8 : i = D.length := by omega
            have hlt' : ¬ (i : Int) < D.length := by omega
            have G3 : Hid (KrO 5 26 40 6 mcT wr base (.slice (some ⟨lb, 0, none⟩) D.length lcap) u9 D A D.length) := by have := G2.out; rw [h8] at this; exact this
            clear G2 h8
            go_wp2
            go_meet
            exact ⟨_, A, rfl, G3, B2⟩
      case rest =>
        obtain ⟨o3, A, ho3, HG3, XB3⟩ := hcut
        subst ho3
        clear XB HL2 XB2
        obtain ⟨ao, co, ho, hpos⟩ := own_shape HG3.out.all
        subst ho
        have HLEN := hide HG3.out.len
        have hAle : A.length ≤ 5000 := by have := HLEN.out; omega
        go_wp2
        go_loopw [13] (fun x wz => ∃ j : Nat, j ≤ A.length ∧ x = .int .i64 j ∧ wz = wc) (fun x _ => A.length - (RowKit.intOf x).toNat)
        case atStart => exact ⟨0, Nat.zero_le _, rfl, rfl⟩
        case round =>
          obtain ⟨j, hj1, rfl, hw⟩ := hrel
          have hw := hw.symm
          subst hw
          by_cases hlj : j < A.length
          · have hlj' : (j : Int) < A.length := by omega
            obtain ⟨lo, hlo⟩ := hpos (by omega)
            subst hlo
            have k0 := own_cell1 HG3.out.all rfl hlj rfl
            have hvw := (HG3.out.views j hlj).1
            have hnm := hvw.le
            unfold maxLen at hnm
            obtain ⟨av, cv, hv, hcs⟩ := hvw.shape
            rw [hv] at k0
            generalize (A[j]).n = n at *
            have HCS := hide hcs
            have HLJ : Hid (j + 1 ≤ A.length) := hlj
            clear hvw hv hcs
            go_wp2
            go_loopw [14] (fun x wz => ∃ k : Nat, k ≤ n ∧ x = .int .i64 k ∧ wz = wc) (fun x _ => n - (RowKit.intOf x).toNat)
            case atStart => exact ⟨0, Nat.zero_le _, rfl, rfl⟩
            case round =>
              obtain ⟨k, hk1, rfl, hw⟩ := hrel
              have hw := hw.symm
              subst hw
              by_cases hk : k < n
              · have hk' : (k : Int) < n := by omega
                obtain ⟨g, hgg, hc⟩ := HCS.out.resolve_left (by omega)
                subst hgg
                have cc : ∀ r, r < 6 → wc.cell? ⟨g, k * 6 + r, none⟩ = (mcT (j / 5))[r]? := fun r hr => by
                  have := hc (k * 6 + r) (by omega)
                  rwa [show (k * 6 + r) % 6 = r by omega] at this
                have m0 : (mcT (j / 5))[0]? = some (.int .i64 (-1 - ((j : Int) / 5))) := by simp [mcT]
                have c0 := (cc 0 (by omega)).trans m0
                have c1 := (cc 1 (by omega)).trans (show (mcT (j / 5))[1]? = some (.string ⟨#[]⟩) from rfl)
                have c2 := (cc 2 (by omega)).trans (show (mcT (j / 5))[2]? = some (.int .i64 0) from rfl)
                have c3 := (cc 3 (by omega)).trans (show (mcT (j / 5))[3]? = some (.int .i64 0) from rfl)
                have c4 := (cc 4 (by omega)).trans (show (mcT (j / 5))[4]? = some (.int .i64 0) from rfl)
                have c5 := (cc 5 (by omega)).trans (show (mcT (j / 5))[5]? = some (.int .i64 0) from rfl)
                rw [Nat.add_zero] at c0
                have hq6 : (j : Int).tdiv 5 = (j : Int) / 5 := Int.tdiv_eq_ediv_of_nonneg (by omega)
                have fw6 : IntKind.i64.wrap ((j : Int) / 5) = (j : Int) / 5 := by simp [IntKind.wrap, IntKind.bits, IntKind.signed]; omega
                have fw7 : IntKind.i64.wrap (-1 - (j : Int) / 5) = -1 - (j : Int) / 5 := by simp [IntKind.wrap, IntKind.bits, IntKind.signed]; omega
                have hE : ∀ W, (Op.equalIn 10000 40 (.agg #[.int .i64 (-1 - (j : Int) / 5), .string ⟨#[]⟩, .int .i64 0, .int .i64 0, .int .i64 0, .int .i64 0]) (.agg #[.int .i64 (-1 - (j : Int) / 5), .string ⟨#[]⟩, .int .i64 0, .int .i64 0, .int .i64 0, .int .i64 0])).run Tryz.prog W = .ok true W := fun W => eq40 ⟨-1 - (j : Int) / 5, [], 0, 0, 0, 0⟩ W
                clear cc m0 hc HCS
                go_wp2
                go_roundw
                case rel => exact ⟨k + 1, by omega, by go_num, by first | rfl | trivial⟩
                case measure => simp [RowKit.intOf]; omega
              · have hk' : ¬ (k : Int) < n := by omega
                go_wp2
                go_roundw
                case rel => exact ⟨j + 1, HLJ.out, by go_num, by first | rfl | trivial⟩
                case measure => have := HLJ.out; simp [RowKit.intOf]; omega
          · have hlj' : ¬ (j : Int) < A.length := by omega
            go_wp2
            go_ret
            exact ⟨rfl, XB3.out⟩
end Go.Proofs.YtkpdbbbeagnjpaaGreatDoor
