/-
  The statements' made, walked: both tries are the rows', or both stay. Condition: the list is no longer than a process can hold.
-/
import Derived.Test.YtnfdjbaafiifnaaP30
import Derived.Test.YtnfdjbaafiifnaaP36
namespace Go.Proofs.Ytnfdjbaafiifnaa
open Go.RowKit Go.Lib

theorem DtAt.kept {F : Nat → Prop} {w w' : World} {b : Nat} {g : Nat → Int} (h : DtAt w b g) (hk : Kept F w w') (hF : ∀ k, F k → ∃ cs T f, w.heap[k]? = some (.cells cs T f) ∧ T ≠ 78 ∧ T ≠ 75) : DtAt w' b g := by
  obtain ⟨v, base, m, hm, h1, h2⟩ := h
  refine ⟨v, base, m, hm, (hk.block b (lt_of_block h1) (fun hf => ?_)).trans h1, own_kept h2 hk (fun k h3 h4 => ?_)⟩
  · obtain ⟨cs, T, f, h4, h5, _⟩ := hF b hf
    rw [h1] at h4
    simp at h4
    exact h5 h4.2.1.symm
  · obtain ⟨cs, T, f, h5, _, h6⟩ := hF k h4
    obtain ⟨cs', h7⟩ := own_ty h2 k h3
    rw [h7] at h5
    simp at h5
    exact h6 h5.2.1.symm
/-- What made leaves. -/
def MdC (_L : List RZ) (xb : Nat) (t0 r0 : Value) (w w' : World) : Prop := Kept (fun k => k = xb) w w' ∧ ((∃ t b c, (t.nf ∧ t.labs Lab ∧ t.dep ≤ 32) ∧ TrieAt w' t (.pointer (some ⟨b, 0, none⟩)) ∧ DtAt w' c t.at ∧ w.heap.size ≤ b ∧ w.heap.size ≤ c ∧ w'.heap[xb]? = some (.cells #[.pointer (some ⟨b, 0, none⟩), .pointer (some ⟨c, 0, none⟩)] 39 (0, 0))) ∨ w'.heap[xb]? = some (.cells #[t0, r0] 39 (0, 0)))
set_option maxRecDepth 100000 in
set_option maxHeartbeats 4000000 in
theorem madeC_any (xb : Nat) (t0 r0 : Value) (ao : Option Addr) (cap : Nat) (L : List RZ) (w : World) (hl : L.length ≤ 4294967296) (hx : w.heap[xb]? = some (.cells #[t0, r0] 39 (0, 0))) (hat : RwAt w ao L) :
    Calls Try.prog 14 #[.pointer (some ⟨xb, 0, none⟩), .slice ao L.length cap] w fun e w' => e = .returned (.bool true) ∧ MdC L xb t0 r0 w w' := by
  obtain ⟨i0, hi, hz0, hz1, hz2⟩ := info_parts Try.info65
  have hc3 : ((L.length : Int) + 3) = ((L.length + 3 : Nat) : Int) := by omega
  have HC3 := hide hc3
  have HAT := hide hat
  have HX0 := hide hx
  have HLC := hide (rzCells_length L)
  clear hc3 hat hx
  have i1 : (L.length : Int) ≤ (L.length : Int) + 3 := by omega
  go_enter Try.func14, Try.ntmps14
  go_wp2_with (first
    | (refine wpList_copy_wide rfl (.tmp 16) (.tmp 17) 44 44 rfl 65 3 Try.underlying44 Try.size65 w.heap.size (L.length + 3) (L.length + 3) ao L.length cap rfl rfl cur 65 G1.out (rzCells L) HLC.out (by omega) G3.out G2.out G4.out (rzCells_one L) ?_; generalize w1.setRow w.heap.size (rzCells L ++ cur.toList.drop (rzCells L).length).toArray = w2 at G5 ⊢)
    | (refine wpList_make_full _ rfl (.tmp 14) (.tmp 14) 44 rfl w.heap.size 65 i0 (.agg #[.int .i64 0, .int .i64 0, .int .i64 0]) 3 Try.underlying44 hi hz0 hz1 .i64 .i64 _ _ (L.length + 3) rfl rfl HC3.out HC3.out (by rw [hz2]; omega) (by unfold maxLen; omega) (Nat.le_refl _) ?_; intro w1 h1 h2; obtain ⟨cur, g1, g2, g3, g4, g5⟩ := lenR_copied HAT.out h1 h2; have G1 := hide g1; have G2 := hide g2; have G3 := hide g3; have G4 := hide g4; have G5 := hide g5; clear h1 h2 g1 g2 g3 g4 g5)
    | (go_at_call 22; refine (make_any L (some ⟨w.heap.size, 0, none⟩) (L.length + 3) w2 (by omega) (by omega) (lenR_at G5.out.1)).mono ?_; rintro e w3 ⟨h3, x3⟩; obtain ⟨po, ev, rfl, M3⟩ : ∃ po ev, e = .returned (.tuple #[.pointer po, .int .i64 ev]) ∧ Hid (MkP L w.heap.size w3 po ev) := (by rcases h3 with ⟨t, b, h1, h2, h3, h4⟩ | ⟨h1, h2⟩; exact ⟨_, _, h2, .inl ⟨t, b, h1, rfl, rfl, h3, Nat.le_trans G5.out.2.size h4⟩⟩; exact ⟨_, _, h2, .inr ⟨h1, rfl, rfl⟩⟩); have O3 := hide (own_below G5.out.1 x3); have X3 := hide (bt G5.out.2 x3 (Nat.le_refl _)); clear h3 x3))
  go_loopw [8] (fun x wr => ∃ k : Nat, k ≤ L.length + 3 ∧ x = .int .i64 k ∧ Hid (wr.ownsRow w.heap.size 65 3 (.slice (some ⟨w.heap.size, 0, none⟩) (L.length + 3) (L.length + 3)) (L.length + 3) (rzCells (struckR L k))) ∧ Hid (MkP L w.heap.size wr po ev) ∧ Hid (Below w.heap.size w wr)) (fun x _ => L.length + 3 - (RowKit.intOf x).toNat)
  case atStart =>
    have := O3.out
    rw [lenR_length] at this
    exact ⟨0, Nat.zero_le _, rfl, by rw [struckR_zero]; exact this, M3, X3⟩
  case round =>
    obtain ⟨k, hk, rfl, O, M, X⟩ := hrel
    rename World => wr
    by_cases hlt : k < L.length + 3
    · have hlt' : (k : Int) < (L.length : Int) + 3 := by omega
      obtain ⟨z, hz⟩ : ∃ z, Hid (z = L.getD k ((0, 0), 0)) := ⟨_, rfl⟩
      have HCE : Hid (∀ W, Below wr.heap.size wr W → W.cell? ⟨w.heap.size, k * 3, none⟩ = some (.int .i64 z.1.1) ∧ W.cell? ⟨w.heap.size, k * 3 + 1, none⟩ = some (.int .i64 z.1.2) ∧ W.cell? ⟨w.heap.size, k * 3 + 2, none⟩ = some (.int .i64 z.2)) := fun W x => by
        have o := own_below O.out x
        obtain ⟨g0, g1, g2⟩ := rzCells_get (struckR L k) k (by rw [struckR_length L k hk]; exact hlt)
        rw [struckR_get L k hlt, ← hz.out] at g0 g1 g2
        rw [o.cellAt (k * 3) (by omega), o.cellAt (k * 3 + 1) (by omega), o.cellAt (k * 3 + 2) (by omega)]
        exact ⟨g0, g1, g2⟩
      by_cases hkL : k < L.length
      · have hkL' : (k : Int) < (L.length : Int) := by omega
        rcases HAT.out with h | ⟨b, off, rfl, hb, hc⟩
        · rw [h] at hkL; simp at hkL
        obtain ⟨p1, p2, p3⟩ := hc k hkL
        rw [← hz.out] at p1 p2 p3
        have r1 := (X.out.cell (p := ⟨b, off + k * 3, none⟩) hb).trans p1
        have r2 := (X.out.cell (p := ⟨b, off + k * 3 + 1, none⟩) hb).trans p2
        have r3 := (X.out.cell (p := ⟨b, off + k * 3 + 2, none⟩) hb).trans p3
        have hbw : b < wr.heap.size := Nat.lt_of_lt_of_le hb X.out.size
        clear hc p1 p2 p3
        go_wp2
        clear r1 r2 r3
        have X4 := hide (al (Below.refl wr.heap.size wr) (.cells #[.int .i64 z.1.1, .int .i64 z.1.2, .int .i64 z.2] 65))
        obtain ⟨c1, c2, c3⟩ := HCE.out _ X4.out
        have q0 : (wr.alloc (.cells #[.int .i64 z.1.1, .int .i64 z.1.2, .int .i64 z.2] 65)).cell? ⟨wr.heap.size, 0, none⟩ = some (.int .i64 z.1.1) := by rw [cell_of_row _ wr.heap.size 0 _ _ _ (heap_alloc_new _ _)]; rfl
        have q1 : (wr.alloc (.cells #[.int .i64 z.1.1, .int .i64 z.1.2, .int .i64 z.2] 65)).cell? ⟨wr.heap.size, 1, none⟩ = some (.int .i64 z.1.2) := by rw [cell_of_row _ wr.heap.size 1 _ _ _ (heap_alloc_new _ _)]; rfl
        have q2 : (wr.alloc (.cells #[.int .i64 z.1.1, .int .i64 z.1.2, .int .i64 z.2] 65)).cell? ⟨wr.heap.size, 2, none⟩ = some (.int .i64 z.2) := by rw [cell_of_row _ wr.heap.size 2 _ _ _ (heap_alloc_new _ _)]; rfl
        generalize wr.alloc (.cells #[.int .i64 z.1.1, .int .i64 z.1.2, .int .i64 z.2] 65) = W at *
        go_quiet (fail)
        have X5 := hide (bt X4.out (below_drewN W.heap.size W nq) (Nat.le_refl _))
        obtain ⟨u1, u2, u3, d1, f1, d2, f2, d3, f3, h7, h8⟩ := strikeR (own_below O.out X5.out) hlt
        have H7 := hide h7
        have K7 := hide ((Kept.of_below X5.out).trans h8)
        clear c1 c2 c3 q0 q1 q2 h7 h8
        generalize W.drewN nq = W1 at *
        go_wp2
        go_roundw
        case rel =>
          refine ⟨k + 1, by omega, by go_num, H7, M.out.kept K7.out (fun i hi => ?_), X.out.trans (K7.out.below X.out.size (fun i hi => by rw [hi]; exact Nat.le_refl _))⟩
          subst hi
          obtain ⟨cs, h5⟩ := own_ty O.out _ rfl
          exact ⟨cs, 65, _, h5, by decide, by decide⟩
        case measure => simp [RowKit.intOf]; omega
      · have hkL' : ¬ (k : Int) < (L.length : Int) := by omega
        have hz0 : z = ((0, 0), 0) := by rw [hz.out, List.getD_eq_getElem?_getD, List.getElem?_eq_none (by omega)]; rfl
        subst hz0
        simp only at HCE
        go_wp2
        have X4 := hide (al (Below.refl wr.heap.size wr) (.cells #[.int .i64 0, .int .i64 0, .int .i64 0] 65))
        obtain ⟨c1, c2, c3⟩ := HCE.out _ X4.out
        have q0 : (wr.alloc (.cells #[.int .i64 0, .int .i64 0, .int .i64 0] 65)).cell? ⟨wr.heap.size, 0, none⟩ = some (.int .i64 0) := by rw [cell_of_row _ wr.heap.size 0 _ _ _ (heap_alloc_new _ _)]; rfl
        have q1 : (wr.alloc (.cells #[.int .i64 0, .int .i64 0, .int .i64 0] 65)).cell? ⟨wr.heap.size, 1, none⟩ = some (.int .i64 0) := by rw [cell_of_row _ wr.heap.size 1 _ _ _ (heap_alloc_new _ _)]; rfl
        have q2 : (wr.alloc (.cells #[.int .i64 0, .int .i64 0, .int .i64 0] 65)).cell? ⟨wr.heap.size, 2, none⟩ = some (.int .i64 0) := by rw [cell_of_row _ wr.heap.size 2 _ _ _ (heap_alloc_new _ _)]; rfl
        generalize wr.alloc (.cells #[.int .i64 0, .int .i64 0, .int .i64 0] 65) = W at *
        go_quiet (fail)
        have X5 := hide (bt X4.out (below_drewN W.heap.size W nq) (Nat.le_refl _))
        obtain ⟨u1, u2, u3, d1, f1, d2, f2, d3, f3, h7, h8⟩ := strikeR (own_below O.out X5.out) hlt
        have H7 := hide h7
        have K7 := hide ((Kept.of_below X5.out).trans h8)
        clear c1 c2 c3 q0 q1 q2 h7 h8
        generalize W.drewN nq = W1 at *
        go_wp2
        go_roundw
        case rel =>
          refine ⟨k + 1, by omega, by go_num, H7, M.out.kept K7.out (fun i hi => ?_), X.out.trans (K7.out.below X.out.size (fun i hi => by rw [hi]; exact Nat.le_refl _))⟩
          subst hi
          obtain ⟨cs, h5⟩ := own_ty O.out _ rfl
          exact ⟨cs, 65, _, h5, by decide, by decide⟩
        case measure => simp [RowKit.intOf]; omega
    · have hnl : ¬ (k : Int) < (L.length : Int) + 3 := by omega
      have hrm := refMakeC_any ao cap L wr hl (HAT.out.below X.out)
      have HRM := hide hrm
      clear hrm
      go_wp2_with (fail)
      refine HRM.out.mono ?_
      rintro e w5 ⟨h5, x5⟩
      have M5 := M.out.below x5
      have X5 := hide (bt X.out x5 (Nat.le_refl _))
      have hxb := lt_of_block HX0.out
      have B5 := hide ((X5.out.block xb hxb).trans HX0.out)
      have c0 : w5.cell? ⟨xb, 0, none⟩ = some t0 := by rw [cell_of_row w5 xb 0 _ _ _ B5.out]; rfl
      have f0 := frozen_of_row w5 xb 0 _ _ B5.out
      clear x5 HRM M
      rcases h5 with ⟨t, hL, hn, hlb, hd, c, rfl, hcb, hdt⟩ | ⟨hr, rfl⟩
      · have ht : rdT 32 0 0 L = some (t, []) := by rw [hL]; have := rdT_rows t 0 0 32 [] hn hlb hd; rwa [List.append_nil] at this
        rcases M5 with ⟨t', b, h1, rfl, rfl, h4, h5⟩ | ⟨h1, _⟩
        · rw [ht] at h1
          obtain ⟨rfl, _⟩ := Prod.mk.inj (Option.some.inj h1)
          have B6 := hide (block_setCell B5.out 0 (.pointer (some ⟨b, 0, none⟩)))
          have c1 : (w5.setCell ⟨xb, 0, none⟩ (.pointer (some ⟨b, 0, none⟩))).cell? ⟨xb, 1, none⟩ = some r0 := by rw [cell_of_row _ xb 1 _ _ _ B6.out]; rfl
          have f1 := frozen_of_row _ xb 1 _ _ B6.out
          have B7 := hide (block_setCell B6.out 1 (.pointer (some ⟨c, 0, none⟩)))
          have K7 : Hid (Kept (fun k => k = xb) w5 ((w5.setCell ⟨xb, 0, none⟩ (.pointer (some ⟨b, 0, none⟩))).setCell ⟨xb, 1, none⟩ (.pointer (some ⟨c, 0, none⟩)))) := Kept.setCell (F := fun k => k = xb) (p := ⟨xb, 1, none⟩) (Kept.setCell (F := fun k => k = xb) (p := ⟨xb, 0, none⟩) (Kept.refl _ _) rfl _) rfl _
          have T7 := hide (h4.kept K7.out (fun k hk => by subst hk; exact ⟨_, 39, _, B5.out, by decide, by decide⟩))
          have D7 := hide (hdt.kept K7.out (fun k hk => by subst hk; exact ⟨_, 39, _, B5.out, by decide, by decide⟩))
          have HT := hide (show t.nf ∧ t.labs Lab ∧ t.dep ≤ 32 from ⟨hn, hlb, hd⟩)
          have H5 := hide h5
          have HC5 : Hid (w.heap.size ≤ c) := Nat.le_trans X.out.size hcb
          clear h1 h4 h5 ht hL hn hlb hd hdt hcb
          go_wp2
          go_ret
          exact ⟨rfl, (Kept.of_below X5.out).trans K7.out, .inl ⟨t, b, c, HT.out, T7.out, D7.out, H5.out, HC5.out, B7.out⟩⟩
        · exact absurd ht (h1 _)
      · rcases M5 with ⟨t', b, h1, rfl, rfl, h4, h5⟩ | ⟨h1, rfl, rfl⟩
        · obtain ⟨g1, g2, g3, g4⟩ := rdT_some h1
          exact absurd ⟨t', by rw [List.append_nil] at g1; exact g1, g2, g3, g4⟩ hr
        · clear h1 hr
          go_wp2
          go_ret
          exact ⟨rfl, Kept.of_below X5.out, .inr B5.out⟩
end Go.Proofs.Ytnfdjbaafiifnaa
