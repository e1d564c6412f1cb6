/-
  AddrCovers, walked: whatever it is given, it answers true; nothing that was there has turned. Conditions: the library's table of powers of ten reads as its text lays it; each list takes no more than a process can hold.
-/
import Derived.Test.YtfjifedfenpbbaaDoorCvS
import Derived.Test.YtfjifedfenpbbaaDoorAwake
namespace Go.Proofs.YtfjifedfenpbbaaDoor
open Go.RowKit Go.Lib

theorem one_cell (T : TypeId) (w0 : World) (x : Value) : ∀ j u, ([x] : List Value)[j]? = some u → (w0.alloc (.cells #[x] T)).cell? ((⟨w0.heap.size, 0, none⟩ : Addr).add j) = some u := by
  intro j u hu
  match j, hu with
  | 0, hu => simp at hu; subst hu; simp [Addr.add]
theorem pushed {w w' : World} {o o' v : Value} {base base' n : Nat} {xs : List Value} {A : List Spn} (h : AppAt w w' o o') (ho : w.ownsRow base 44 1 o n xs) (hv : OwnT 28 w base' v A) : OwnT 28 w' base' v A := by
  obtain ⟨F, hk, hF⟩ := app_kept h
  exact hv.kept hk (fun k h3 h4 => own_ne ho hv (by decide) k (hF k h4) h3)

set_option maxRecDepth 100000 in
set_option maxHeartbeats 4000000 in
theorem addrCovers_any (aL aM : Option Addr) (cL cM : Nat) (L M : List Spn) (w : World) (hlL : L.length ≤ 140737488351232) (hlM : M.length ≤ 140737488351232) (hatL : SpAt w aL L) (hatM : SpAt w aM M) (ht : Tab w) :
    Calls Tryd.prog 5 #[.slice aL L.length cL, .slice aM M.length cM] w fun e w' => e = .returned (.bool true) ∧ Below w.heap.size w w' := by
  have hadd := fun w => addsUp_any L.length M.length hlL hlM w
  by_cases hbig : (33554431 : Int) < (if 2147483647 < L.length ∨ 2147483647 < M.length then 2147483648 else (L.length : Int) + M.length)
  · generalize (if 2147483647 < L.length ∨ 2147483647 < M.length then (2147483648 : Int) else (L.length : Int) + M.length) = z at *
    go_enter Tryd.func5, Tryd.ntmps5
    go_wp2_with (go_at_call 19; refine (hadd _).mono ?_; rintro e w1 ⟨rfl, hw1⟩; subst hw1)
    go_ret
    exact ⟨rfl, Below.refl _ _⟩
  have hsm : L.length + M.length ≤ 33554431 := by
    split at hbig <;> omega
  rw [if_neg (by omega)] at hadd
  clear hbig
  have hbig : ¬ (33554431 : Int) < (L.length : Int) + M.length := by omega
  obtain ⟨LL, hLL⟩ : ∃ LL : Nat → List Spn, LL = fun i => if i = 2 then M else L := ⟨_, rfl⟩
  obtain ⟨aa, haa⟩ : ∃ aa : Nat → Option Addr, aa = fun i => if i = 2 then aM else aL := ⟨_, rfl⟩
  obtain ⟨cc, hcc⟩ : ∃ cc : Nat → Nat, cc = fun i => if i = 2 then cM else cL := ⟨_, rfl⟩
  have hll : ∀ i, (LL i).length ≤ 33554431 := fun i => by rw [hLL]; simp only []; split <;> omega
  have hsp : ∀ W, Below w.heap.size w W → ∀ i, SpAt W (aa i) (LL i) := fun W x i => by
    rw [hLL, haa]; simp only []; split
    · exact hatM.below x
    · exact hatL.below x
  have hce : ∀ W : World, ∀ i, i < 4 → (W.alloc (.cells #[.slice aL L.length cL, .slice aL L.length cL, .slice aM M.length cM, .slice aL L.length cL] 40)).cell? ⟨W.heap.size, i, none⟩ = some (.slice (aa i) (LL i).length (cc i)) := fun W i hi => by
    rw [hLL, haa, hcc]
    match i, hi with
    | 0, _ => simp
    | 1, _ => simp
    | 2, _ => simp
    | 3, _ => simp
  have HLL := hide hll
  have HSP := hide hsp
  have HCE := hide hce
  obtain ⟨i0, hi, hz0, hz1, hz2⟩ := Tryd.info36'
  obtain ⟨i44, hj, hy0, hy1, hy2⟩ : ∃ i, Tryd.prog.info? 44 = some i ∧ i.zero = some (.slice none 0 0) ∧ i.size = 1 ∧ i.bytes = 24 := info_parts Tryd.info44
  clear hll hsp hce hLL haa hcc hatL hatM
  go_enter Tryd.func5, Tryd.ntmps5
  go_wp2_with (first
    | (go_at_call 19; refine (hadd _).mono ?_; rintro e w0 ⟨rfl, hw0⟩; subst hw0)
    | (go_at_call 8; refine (awake_any _ ht).mono ?_; rintro e w1 ⟨rfl, x1⟩; have X1 := hide x1; clear x1))
  have HC1 := hide (HCE.out w1)
  have HX := hide (al X1.out (.cells #[.slice aL L.length cL, .slice aL L.length cL, .slice aM M.length cM, .slice aL L.length cL] 40))
  have HAB : Hid (w1.heap.size < (w1.alloc (.cells #[.slice aL L.length cL, .slice aL L.length cL, .slice aM M.length cM, .slice aL L.length cL] 40)).heap.size) := by unfold Hid; simp
  generalize w1.alloc (.cells #[.slice aL L.length cL, .slice aL L.length cL, .slice aM M.length cM, .slice aL L.length cL] 40) = W1 at *
  generalize w1.heap.size = ab at *
  have HSP1 := hide (HSP.out W1 HX.out)
  have HW1 := hide (Nat.le_refl W1.heap.size)
  clear HSP HCE X1 ht
  go_loopw [7, 8, 9] (fun o wv x wr => ∃ i : Nat, i ≤ 4 ∧ x = .int .i64 i ∧ ∃ D E, D.length = i ∧ E.length = i ∧ CvS W1 W1.heap.size LL o wv D E wr) (fun _ _ x _ => 4 - (RowKit.intOf x).toNat)
  case atStart => exact ⟨0, by omega, rfl, [], [], rfl, rfl, CvS.nil _ _ _⟩
  case round =>
    obtain ⟨i, hi4, rfl, D, E, hDl, hEl, S1⟩ := hrel
    by_cases hlt : i < 4
    · have hlt' : (i : Int) < 4 := by omega
      have hx1 : Below W1.heap.size W1 wr := S1.below
      have hat := (HSP1.out i).below hx1
      have c0 := (hx1.cell (p := ⟨ab, i, none⟩) HAB.out).trans (HC1.out i hlt)
      have hab : ab < wr.heap.size := Nat.lt_of_lt_of_le HAB.out hx1.size
      have hk := HLL.out i
      have hLL1 : LL D.length = LL i := by rw [hDl]
      have hLL2 : LL E.length = LL i := by rw [hEl]
      have HL1 := hide hLL1
      have HL2 := hide hLL2
      have HDL := hide hDl
      have HEL := hide hEl
      have HLC := hide (spCells_length (LL i))
      have HAT := hide hat
      generalize hK : LL i = K at *
      have HK := hide hK
      generalize aa i = ai at *
      generalize cc i = ci at *
      have hc3 : ((K.length : Int) + 3) = ((K.length + 3 : Nat) : Int) := by omega
      have HC3 := hide hc3
      have i1 : (K.length : Int) ≤ (K.length : Int) + 3 := by omega
      clear hc3 hat hx1 hLL1 hLL2 hK hDl hEl
      rename World => wR
      go_wp2_with (first
        | (refine wpList_copy_wide rfl (.tmp 45) (.tmp 49) 40 40 rfl 36 2 Tryd.underlying40 Tryd.size36 wR.heap.size (K.length + 3) (K.length + 3) ai K.length ci rfl rfl cur 36 G1.out (spCells K) HLC.out (by omega) G3.out G2.out G4.out (spCells_one K) ?_; have c2 := (G5.out.2.cell (p := ⟨ab, i, none⟩) hab).trans c0; generalize w2.setRow wR.heap.size (spCells K ++ cur.toList.drop (spCells K).length).toArray = w3 at G5 c2 ⊢; clear c1)
        | (refine wpList_make_full _ rfl (.tmp 43) (.tmp 43) 40 rfl wR.heap.size 36 i0 (.agg #[.int .i64 0, .int .i64 0]) 2 Tryd.underlying40 hi hz0 hz1 .i64 .i64 _ _ (K.length + 3) rfl rfl HC3.out HC3.out (by rw [hz2]; omega) (by unfold maxLen; omega) (Nat.le_refl _) ?_; intro w2 h1 h2; have c1 := ((below_of_grown h2).cell (p := ⟨ab, i, none⟩) hab).trans c0; obtain ⟨cur, g1, g2, g3, g4, g5⟩ := lent_copied HAT.out h1 h2; have G1 := hide g1; have G2 := hide g2; have G3 := hide g3; have G4 := hide g4; have G5 := hide g5; clear h1 h2 g1 g2 g3 g4 g5)
        | (go_at_call 20; have hat3 : SpAt w3 (some ⟨wR.heap.size, 0, none⟩) K := (lentZ_at G5.out.1); refine (cover_all _ _ K w3 (by omega) hat3).mono ?_; rintro e w4 ⟨⟨v4, rfl, o4⟩, x4⟩; have O4 := hide o4; have X4 := hide x4; have c3 := (x4.cell (p := ⟨ab, i, none⟩) (Nat.lt_of_lt_of_le hab G5.out.2.size)).trans c2; clear o4 x4 c2 hat3))
      have O3 := hide (G5.out.1.below X4.out)
      have X3 := hide (bt G5.out.2 X4.out (Nat.le_refl _))
      have HC4 : Hid (w4.cell? ⟨ab, i, none⟩ = some (.slice ai K.length ci)) := c3
      have hab4 : ab < w4.heap.size := Nat.lt_of_lt_of_le hab X3.out.size
      have HAT4 := hide (HAT.out.below X3.out)
      have HHB : Hid (wR.heap.size < w4.heap.size) := (O3.out.lt wR.heap.size rfl).2
      have HATB : Hid (∀ a, ai = some a → ¬ a.block = wR.heap.size ∨ K = []) := fun a ha => by
        rcases HAT.out with h | ⟨b, off, e, hb, _⟩
        · exact .inr h
        · rw [e] at ha; cases ha; exact .inl (by simp only []; omega)
      have HV4 : Hid (∀ k, v4.ownBlock = some k → wR.heap.size < k) := fun k hk => Nat.lt_of_lt_of_le (G5.out.1.lt wR.heap.size rfl).2 (O4.out.lt k hk).1
      have HW3 : Hid (W1.heap.size ≤ w3.heap.size) := Nat.le_trans S1.below.size G5.out.2.size
      have HC0 := hide c0
      clear c0 c3 G1 G2 G3 G4 G5 X4
      go_loopw [13] (fun x wq => ∃ k : Nat, k ≤ K.length + 3 ∧ x = .int .i64 k ∧ Hid (OwnT 36 wq wR.heap.size (.slice (some ⟨wR.heap.size, 0, none⟩) (K.length + 3) (K.length + 3)) (struckZ K k)) ∧ Hid (Kept (fun b => b = wR.heap.size) w4 wq)) (fun x _ => K.length + 3 - (RowKit.intOf x).toNat)
      case atStart => exact ⟨0, Nat.zero_le _, rfl, by rw [struckZ_zero]; exact O3.out, Kept.refl _ _⟩
      case round =>
        obtain ⟨k, hk3, rfl, HO, HKP⟩ := hrel
        by_cases hkl : k < K.length + 3
        · have hkl' : (k : Int) < (K.length : Int) + 3 := by omega
          have hh : wr.ownsRow wR.heap.size 36 2 (.slice (some ⟨wR.heap.size, 0, none⟩) (K.length + 3) (K.length + 3)) (K.length + 3) (spCells (struckZ K k)) := by
            have := HO.out
            unfold OwnT at this
            rwa [struckZ_length K k (by omega)] at this
          have hne : ¬ ab = wR.heap.size := by omega
          have c1 := (HKP.out.cell (p := ⟨ab, i, none⟩) hab4 hne).trans HC4.out
          have habr : ab < wr.heap.size := Nat.lt_of_lt_of_le hab4 HKP.out.size
          obtain ⟨s, hs⟩ : ∃ s, s = K.getD k (0, 0) := ⟨_, rfl⟩
          have hg := spCells_get (struckZ K k) k (by rw [struckZ_length K k (by omega)]; exact hkl)
          rw [struckZ_get K k hkl, ← hs] at hg
          have d1 := (hh.cellAt (k * 2) (by omega)).trans hg.1
          have d2 := (hh.cellAt (k * 2 + 1) (by omega)).trans hg.2
          have f1 := hh.frozenAt (k * 2)
          have f2 := hh.frozenAt (k * 2 + 1)
          have hhb : wR.heap.size < wr.heap.size := (HO.out.lt wR.heap.size rfl).2
          have HS := hide hs
          have HH := hide hh
          clear hs hg hh
          by_cases hkn : k < K.length
          · have hkn' : (k : Int) < K.length := by omega
            obtain ⟨b, off, rfl, hb, hc⟩ := HAT4.out.get hkn
            have hnb : ¬ b = wR.heap.size := by
              rcases HATB.out _ rfl with h | h
              · exact h
              · rw [h] at hkn; simp at hkn
            have hcc := hc k hkn
            rw [← HS.out] at hcc
            have e1 := (HKP.out.cell (p := ⟨b, off + k * 2, none⟩) hb hnb).trans hcc.1
            have e2 := (HKP.out.cell (p := ⟨b, off + k * 2 + 1, none⟩) hb hnb).trans hcc.2
            have hbr : b < wr.heap.size := Nat.lt_of_lt_of_le hb HKP.out.size
            clear hc hcc
            go_wp2
            clear e1 e2
            have hA := al (Below.refl wr.heap.size wr) (.cells #[.int .i64 s.1, .int .i64 s.2] 36)
            have HA := hide hA
            obtain ⟨p0, p1, _, _⟩ := two_get (heap_alloc_new wr (.cells #[.int .i64 s.1, .int .i64 s.2] 36))
            have q1 := (hA.cell (p := ⟨wR.heap.size, k * 2, none⟩) hhb).trans d1
            have q2 := (hA.cell (p := ⟨wR.heap.size, k * 2 + 1, none⟩) hhb).trans d2
            have HD : Hid (Below (wr.alloc (.cells #[.int .i64 s.1, .int .i64 s.2] 36)).heap.size (wr.alloc (.cells #[.int .i64 s.1, .int .i64 s.2] 36)) (wr.alloc (.cells #[.int .i64 s.1, .int .i64 s.2] 36)).drew) := (Below.refl _ _).drew
            have hsb : wR.heap.size < (wr.alloc (.cells #[.int .i64 s.1, .int .i64 s.2] 36)).heap.size := Nat.lt_of_lt_of_le hhb hA.size
            have hxb : wr.heap.size < (wr.alloc (.cells #[.int .i64 s.1, .int .i64 s.2] 36)).heap.size := by simp
            clear hA d1 d2 f1 f2
            generalize wr.alloc (.cells #[.int .i64 s.1, .int .i64 s.2] 36) = Wx at *
            refine wp_region_quiet (C := fun w' => Below Wx.heap.size Wx w') (by kernel_rfl) (by kernel_rfl) HD.out ?_
            refine QW.out (l := _ :: _) ?_
            iterate 6 (refine QW.take (by rfl) ?_; apply Exists.intro; refine ⟨fun w' hw' => ?_, ?_⟩; (· (have g0 := (hw'.cell (p := ⟨wr.heap.size, 0, none⟩) hxb).trans p0; have g1 := (hw'.cell (p := ⟨wr.heap.size, 1, none⟩) hxb).trans p1; have g2 := (hw'.cell (p := ⟨wR.heap.size, k * 2, none⟩) hsb).trans q1; have g3 := (hw'.cell (p := ⟨wR.heap.size, k * 2 + 1, none⟩) hsb).trans q2; go_simp; first | done | (first | done | rfl))); try simp only [Act.put, List.setIfInBounds_toArray, List.set_cons_zero, List.set_cons_succ])
            refine QW.nil ?_
            intro w7 x7
            have hx7 := bt HA.out x7 (Nat.le_refl _)
            have h7 := own_below HH.out hx7
            obtain ⟨h3, h4⟩ := h7.stored (k * 2) (.int .i64 9)
            obtain ⟨h5, h6⟩ := h3.stored (k * 2 + 1) (.int .i64 9)
            have r1 := (x7.cell (p := ⟨wR.heap.size, k * 2, none⟩) hsb).trans q1
            have r2 := h7.frozenAt (k * 2)
            obtain ⟨u2, hu2⟩ : ∃ u, ((spCells (struckZ K k)).set (k * 2) (.int .i64 9))[k * 2 + 1]? = some u := ⟨_, List.getElem?_eq_getElem (by rw [h3.1]; omega)⟩
            have r3 := (h3.cellAt (k * 2 + 1) (by omega)).trans hu2
            have r4 := h3.frozenAt (k * 2 + 1)
            rw [struckZ_set K k hkl] at h5
            have hk7 : Kept (fun b => b = wR.heap.size) w4 ((w7.setCell ⟨wR.heap.size, k * 2, none⟩ (.int .i64 9)).setCell ⟨wR.heap.size, k * 2 + 1, none⟩ (.int .i64 9)) := ((HKP.out.trans (Kept.of_below hx7)).setCell rfl _).setCell rfl _
            have H5 : Hid (OwnT 36 ((w7.setCell ⟨wR.heap.size, k * 2, none⟩ (.int .i64 9)).setCell ⟨wR.heap.size, k * 2 + 1, none⟩ (.int .i64 9)) wR.heap.size (.slice (some ⟨wR.heap.size, 0, none⟩) (K.length + 3) (K.length + 3)) (struckZ K (k + 1))) := by
              unfold Hid OwnT
              rw [struckZ_length K (k + 1) (by omega)]
              exact h5
            have HK7 := hide hk7
            clear x7 hx7 h7 h3 h4 h5 h6 hu2 hk7 p0 p1 q1 q2 HO HKP HH
            go_wp2
            go_roundw
            case rel => exact ⟨k + 1, by omega, by go_num, H5.out, HK7.out⟩
            case measure => simp [RowKit.intOf]; omega
          · have hkn' : ¬ (k : Int) < K.length := by omega
            have hs0 : s = (0, 0) := by rw [HS.out, List.getD_eq_getElem?_getD, List.getElem?_eq_none (by omega)]; rfl
            subst hs0
            go_wp2
            have hA := al (Below.refl wr.heap.size wr) (.cells #[.int .i64 0, .int .i64 0] 36)
            have HA := hide hA
            obtain ⟨p0, p1, _, _⟩ := two_get (heap_alloc_new wr (.cells #[.int .i64 0, .int .i64 0] 36))
            have q1 := (hA.cell (p := ⟨wR.heap.size, k * 2, none⟩) hhb).trans d1
            have q2 := (hA.cell (p := ⟨wR.heap.size, k * 2 + 1, none⟩) hhb).trans d2
            have HD : Hid (Below (wr.alloc (.cells #[.int .i64 0, .int .i64 0] 36)).heap.size (wr.alloc (.cells #[.int .i64 0, .int .i64 0] 36)) (wr.alloc (.cells #[.int .i64 0, .int .i64 0] 36)).drew) := (Below.refl _ _).drew
            have hsb : wR.heap.size < (wr.alloc (.cells #[.int .i64 0, .int .i64 0] 36)).heap.size := Nat.lt_of_lt_of_le hhb hA.size
            have hxb : wr.heap.size < (wr.alloc (.cells #[.int .i64 0, .int .i64 0] 36)).heap.size := by simp
            clear hA d1 d2 f1 f2
            generalize wr.alloc (.cells #[.int .i64 0, .int .i64 0] 36) = Wx at *
            refine wp_region_quiet (C := fun w' => Below Wx.heap.size Wx w') (by kernel_rfl) (by kernel_rfl) HD.out ?_
            refine QW.out (l := _ :: _) ?_
            iterate 6 (refine QW.take (by rfl) ?_; apply Exists.intro; refine ⟨fun w' hw' => ?_, ?_⟩; (· (have g0 := (hw'.cell (p := ⟨wr.heap.size, 0, none⟩) hxb).trans p0; have g1 := (hw'.cell (p := ⟨wr.heap.size, 1, none⟩) hxb).trans p1; have g2 := (hw'.cell (p := ⟨wR.heap.size, k * 2, none⟩) hsb).trans q1; have g3 := (hw'.cell (p := ⟨wR.heap.size, k * 2 + 1, none⟩) hsb).trans q2; go_simp; first | done | (first | done | rfl))); try simp only [Act.put, List.setIfInBounds_toArray, List.set_cons_zero, List.set_cons_succ])
            refine QW.nil ?_
            intro w7 x7
            have hx7 := bt HA.out x7 (Nat.le_refl _)
            have h7 := own_below HH.out hx7
            obtain ⟨h3, h4⟩ := h7.stored (k * 2) (.int .i64 9)
            obtain ⟨h5, h6⟩ := h3.stored (k * 2 + 1) (.int .i64 9)
            have r1 := (x7.cell (p := ⟨wR.heap.size, k * 2, none⟩) hsb).trans q1
            have r2 := h7.frozenAt (k * 2)
            obtain ⟨u2, hu2⟩ : ∃ u, ((spCells (struckZ K k)).set (k * 2) (.int .i64 9))[k * 2 + 1]? = some u := ⟨_, List.getElem?_eq_getElem (by rw [h3.1]; omega)⟩
            have r3 := (h3.cellAt (k * 2 + 1) (by omega)).trans hu2
            have r4 := h3.frozenAt (k * 2 + 1)
            rw [struckZ_set K k hkl] at h5
            have hk7 : Kept (fun b => b = wR.heap.size) w4 ((w7.setCell ⟨wR.heap.size, k * 2, none⟩ (.int .i64 9)).setCell ⟨wR.heap.size, k * 2 + 1, none⟩ (.int .i64 9)) := ((HKP.out.trans (Kept.of_below hx7)).setCell rfl _).setCell rfl _
            have H5 : Hid (OwnT 36 ((w7.setCell ⟨wR.heap.size, k * 2, none⟩ (.int .i64 9)).setCell ⟨wR.heap.size, k * 2 + 1, none⟩ (.int .i64 9)) wR.heap.size (.slice (some ⟨wR.heap.size, 0, none⟩) (K.length + 3) (K.length + 3)) (struckZ K (k + 1))) := by
              unfold Hid OwnT
              rw [struckZ_length K (k + 1) (by omega)]
              exact h5
            have HK7 := hide hk7
            clear x7 hx7 h7 h3 h4 h5 h6 hu2 hk7 p0 p1 q1 q2 HO HKP HH
            go_wp2
            go_roundw
            case rel => exact ⟨k + 1, by omega, by go_num, H5.out, HK7.out⟩
            case measure => simp [RowKit.intOf]; omega
        · have hkl' : ¬ (k : Int) < (K.length : Int) + 3 := by omega
          have hXR : Below wR.heap.size wR wr := X3.out.trans (HKP.out.below X3.out.size (fun b hb => by rw [hb]; exact Nat.le_refl _))
          have c1 := (hXR.cell (p := ⟨ab, i, none⟩) hab).trans HC0.out
          have hrc := refCover_all ai ci K wr (by omega) (HAT.out.below hXR)
          have hO4 : OwnT 28 wr W1.heap.size v4 (CV K) := (O4.out.kept HKP.out (fun k hk h => by have := HV4.out k hk; omega)).mono HW3.out
          have S2 := S1.next HW1.out hXR
          have HWr : Hid (W1.heap.size ≤ wr.heap.size) := Nat.le_trans S1.below.size hXR.size
          have hfr : ∀ j (hj : j < D.length) k, (D[j]).v.ownBlock = some k → ¬ v4.ownBlock = some k := fun j hj k h1 h2 => by
            have := (World.ownsRow.lt (S1.ls.each j hj) k h1).2
            have := HV4.out k h2
            omega
          have HFR := hide hfr
          have H4 := hide hO4
          obtain ⟨a4, c4, e4, _, _⟩ := hO4.shape
          subst e4
          have HLD : Hid (D.length = i ∧ E.length = i ∧ i < 4) := ⟨HDL.out, HEL.out, hlt⟩
          clear HO HKP O3 X3 HC4 hab4 HAT4 HHB HATB O4 HV4 HC0 HAT hfr hO4 S1 hXR
          go_wp2_with (first
            | (go_at_call 21; refine hrc.mono ?_; rintro e w5 ⟨⟨v5, rfl, o5⟩, x5⟩; have S5 := S2.next HW1.out (al x5 (.cells #[.slice a4 (CV K).length c4] 44)); have P4 := hide (H4.out.below (al x5 (.cells #[.slice a4 (CV K).length c4] 44))); have P5 := hide ((o5.mono HWr.out).below (al (Below.refl _ w5) (.cells #[.slice a4 (CV K).length c4] 44))); have HN5 := hide (one_cell 44 w5 (.slice a4 (CV K).length c4)); obtain ⟨a5, c5, e5, _, _⟩ := o5.shape; subst e5; clear x5 o5 S2 H4 hrc)
            | (at_builtin; refine wpList_append_view rfl (.tmp 104) (.tmp 106) 43 rfl W1.heap.size 44 i44 (.slice none 0 0) 1 24 Tryd.underlying43 hj hy0 hy1 hy2 rfl (by decide) _ D.length (D.map LD.v) rfl S5.ls.row ⟨w5.heap.size, 0, none⟩ 1 1 [.slice a4 (CV K).length c4] rfl rfl HN5.out (by simp [Value.oneCell']) (by decide) (by have := HLD.out; unfold maxLen; omega) (by have := HLD.out; omega) S5.below.size ?_; intro v8 w8 h1 h2; have hkk := appKept h2 S5.ls.row; have S8 := S5.pushO HW1.out (by rw [HL1.out]; exact P4.out) HFR.out h1 h2; have hP5 : OwnT 28 w8 W1.heap.size (.slice a5 (CV K).length c5) (CV K) := (pushed h2 S5.ls.row P5.out); have S9 := S8.next HW1.out (al (Below.refl _ w8) (.cells #[.slice a5 (CV K).length c5] 44)); have P9 := hide (hP5.below (al (Below.refl _ w8) (.cells #[.slice a5 (CV K).length c5] 44))); have HN9 := hide (one_cell 44 w8 (.slice a5 (CV K).length c5)); clear h1 h2 hkk S8 hP5 S5 P4 P5 HN5)
            | (at_builtin; refine wpList_append_view rfl (.tmp 108) (.tmp 110) 43 rfl W1.heap.size 44 i44 (.slice none 0 0) 1 24 Tryd.underlying43 hj hy0 hy1 hy2 rfl (by decide) _ E.length (E.map LD.v) rfl S9.row ⟨w8.heap.size, 0, none⟩ 1 1 [.slice a5 (CV K).length c5] rfl rfl HN9.out (by simp [Value.oneCell']) (by decide) (by have := HLD.out; unfold maxLen; omega) (by have := HLD.out; omega) S9.below.size ?_; intro v9 w9 h1 h2; have S10 := hide (S9.pushE HW1.out (by rw [HL2.out]; exact P9.out) h1 h2); clear h1 h2 S9 P9 HN9))
          go_roundw
          case rel => exact ⟨i + 1, by omega, by go_num, _, _, by rw [List.length_append, HDL.out]; rfl, by rw [List.length_append, HEL.out]; rfl, S10.out⟩
          case measure => simp [RowKit.intOf]; omega
    · have hlt' : ¬ (i : Int) < 4 := by omega
      have h4 : i = 4 := by omega
      have HD4 : Hid (D.length = 4) := hDl.trans h4
      have HE4 : Hid (E.length = 4) := hEl.trans h4
      obtain ⟨ao, co, eo, hpo⟩ := own_shape S1.ls.row
      obtain ⟨ae, ce, ee, hpe⟩ := own_shape S1.row
      subst eo ee
      obtain ⟨lo, rfl⟩ := hpo (by have := HD4.out; omega)
      obtain ⟨le, rfl⟩ := hpe (by have := HE4.out; omega)
      clear h4 hDl hEl hpo hpe
      rename World => wE
      have hD4 : D.length ≤ 4 := by have := HD4.out; omega
      go_wp2
      go_loopw [17] (fun x wq => ∃ j : Nat, j ≤ D.length ∧ x = .int .i64 j ∧ Below wE.heap.size wE wq) (fun x _ => D.length - (RowKit.intOf x).toNat)
      case atStart => exact ⟨0, Nat.zero_le _, rfl, Below.refl _ _⟩
      case round =>
        obtain ⟨j, hj1, rfl, hq⟩ := hrel
        have S2 := S1.next HW1.out hq
        have HQ := hide hq
        clear hq
        by_cases hjl : j < D.length
        · have hjl' : (j : Int) < D.length := by omega
          have hje : j < E.length := by rw [HE4.out]; rw [HD4.out] at hjl; exact hjl
          have hje' : (j : Int) < E.length := by omega
          have c1 := own_cell1 S2.ls.row rfl hjl rfl
          have c2 := own_cell1 S2.row rfl hje rfl
          have o1 : OwnT 28 wr W1.heap.size (D[j]).v (CV (LL j)) := by
            have := S2.ls.each j hjl
            rw [S2.dn j hjl] at this
            exact this
          have o2 := (S2.each j hje).2
          obtain ⟨a1, d1, e1, t1, _⟩ := o1.shape
          obtain ⟨a2, d2, e2, t2, _⟩ := o2.shape
          rw [e1] at c1
          rw [e2] at c2
          have hlo : lo < wr.heap.size := (World.ownsRow.lt S2.ls.row lo rfl).2
          have hle : le < wr.heap.size := (World.ownsRow.lt S2.row le rfl).2
          have T1 := hide t1
          have T2 := hide t2
          have hcl := CV_len (LL j)
          generalize CV (LL j) = A at *
          have HDr : Hid (Below wr.heap.size wr wr.drew) := (Below.refl _ _).drew
          have HS1 := hide S1
          clear o1 o2 e1 e2 t1 t2 S2 S1
          go_wp2
          refine wp_region_quiet (C := fun w' => Below wr.heap.size wr w') (by kernel_rfl) (by kernel_rfl) HDr.out ?_
          refine QW.out (l := _ :: _) ?_
          iterate 8 (refine QW.take (by rfl) ?_; apply Exists.intro; refine ⟨fun w' hw' => ?_, ?_⟩; (· (have g1 := (hw'.cell (p := ⟨lo, j, none⟩) hlo).trans c1; have g2 := (hw'.cell (p := ⟨le, j, none⟩) hle).trans c2; go_simp; first | done | (first | done | rfl))); try simp only [Act.put, List.setIfInBounds_toArray, List.set_cons_zero, List.set_cons_succ])
          iterate 1 (refine QW.take (by rfl) ?_; apply Exists.intro; refine ⟨fun w' hw' => ?_, ?_⟩; (· (have g1 := (hw'.cell (p := ⟨lo, j, none⟩) hlo).trans c1; have g2 := (hw'.cell (p := ⟨le, j, none⟩) hle).trans c2; go_simp; (refine (prefixes_any a1 a2 d1 d2 A _ (by omega) (T1.out.below hw') (T2.out.below hw')).mono ?_; rintro e w2 ⟨rfl, x2⟩; exact ⟨rfl, hw'.trans (x2.mono hw'.size)⟩))); try simp only [Act.put, List.setIfInBounds_toArray, List.set_cons_zero, List.set_cons_succ])
          iterate 1 (refine QW.take (by rfl) ?_; apply Exists.intro; refine ⟨fun w' hw' => ?_, ?_⟩; (· (have g1 := (hw'.cell (p := ⟨lo, j, none⟩) hlo).trans c1; have g2 := (hw'.cell (p := ⟨le, j, none⟩) hle).trans c2; go_simp; first | done | (first | done | rfl))); try simp only [Act.put, List.setIfInBounds_toArray, List.set_cons_zero, List.set_cons_succ])
          refine QW.nil ?_
          intro w7 x7
          have X7 := hide (bt HQ.out x7 (Nat.le_refl _))
          have S1 := HS1.out
          clear x7 c1 c2 HS1
          go_wp2
          go_roundw
          case rel => exact ⟨j + 1, by omega, by go_num, X7.out⟩
          case measure => simp [RowKit.intOf]; omega
        · have hjl' : ¬ (j : Int) < D.length := by omega
          have how := owned_any wr W1.heap.size lo co D _ S2.ls (Nat.le_trans S1.below.size HQ.out.size) (by omega) (fun j hj => by rw [S2.dn j hj]; exact Nat.le_trans (CV_len _) (by decide))
          have HB2 := hide S2.below
          clear S1 S2
          go_wp2_with (go_at_call 23; refine how.mono ?_; rintro e w9 ⟨rfl, x9⟩; have X9 := hide x9; clear x9)
          go_ret
          exact ⟨rfl, bt HX.out (HB2.out.trans X9.out) (Nat.le_refl _)⟩
end Go.Proofs.YtfjifedfenpbbaaDoor
