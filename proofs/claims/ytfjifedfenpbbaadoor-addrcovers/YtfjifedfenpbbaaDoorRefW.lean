/-
  The document's Cover by its contract: the prefixes of a set, in a row of the call's own. Condition: a list is no longer than a process can hold.
-/
import Derived.Test.YtfjifedfenpbbaaDoorRefV
import Derived.Test.YtfjifedfenpbbaaDoorRefD
import Derived.Test.YtfjifedfenpbbaaDoorCover
namespace Go.Proofs.YtfjifedfenpbbaaDoor
open Go.RowKit Go.Lib

/-- Size, at a place behind. -/
theorem size_pred (b : Nat) (h0 : 0 < b) (hb : b ≤ 32) (w : World) : Calls Tryd.prog 40 #[.int .i64 ((b : Int) - 1)] w fun e w' => e = .returned (.int .i64 (2 ^ (32 - (b - 1)) : Nat)) ∧ w' = w := by
  have := size_any (b - 1) (by omega) w
  rw [show ((b - 1 : Nat) : Int) = (b : Int) - 1 by omega] at this
  exact this

set_option maxRecDepth 100000 in
set_option maxHeartbeats 4000000 in
theorem refCover_any (ao : Option Addr) (cap : Nat) (L : List Spn) (w : World) (hl : L.length ≤ 140737488351232) (hat : SpAt w ao L) :
    Calls Tryd.prog 21 #[.slice ao L.length cap] w fun e w' => ((IsSet L ∧ ∃ v, e = .returned (.tuple #[v, .int .i64 0]) ∧ OwnT 28 w' w.heap.size v (covL L)) ∨ (¬ IsSet L ∧ e = .returned (.tuple #[.slice none 0 0, .int .i64 1]))) ∧ Below w.heap.size w w' := by
  obtain ⟨i0, hi, hz0, hz1, hz2⟩ : ∃ i, Tryd.prog.info? 28 = some i ∧ i.zero = some (.agg #[.int .i64 0, .int .i64 0]) ∧ i.size = 2 ∧ i.bytes = 16 := info_parts Tryd.info28
  have hr := ref2Right_any ao cap L w hl hat
  by_cases hs : IsSet L
  · rw [decide_eq_true hs] at hr
    have HST0 := hide hs
    clear hs
    go_enter Tryd.func21, Tryd.ntmps21
    go_wp2_with (go_at_call 43; refine hr.mono ?_; rintro e w1 ⟨rfl, x1⟩; have X1 := hide x1; clear x1)
    clear hr
    go_loopw [5, 6] (fun o i wr => ∃ k : Nat, k ≤ L.length ∧ i = .int .i64 k ∧ Hid (OwnT 28 wr w.heap.size o (covL (L.take k))) ∧ Below w.heap.size w wr) (fun _ i _ => L.length - (RowKit.intOf i).toNat)
    case atStart => exact ⟨0, Nat.zero_le _, rfl, OwnT.nil _ _ _, X1.out⟩
    case round =>
      obtain ⟨k, hk, rfl, HO, hq⟩ := hrel
      have HQ := hide hq
      clear hq
      by_cases hlt : k < L.length
      · have hlt' : (k : Int) < L.length := by omega
        obtain ⟨b, off, rfl, hb, hc⟩ := hat.get hlt
        obtain ⟨c1, c2⟩ := (hc k hlt).below HQ.out hb
        have HC0 : Hid (Cell2 w b (off + k * 2) (L.getD k (0, 0))) := hc k hlt
        have hct := covL_take L k hlt
        have hbd := (ok_of_isSet HST0.out hlt).1
        have hsz := covL_len (L.take (k + 1)) (HST0.out.take (k + 1)).1
        have hsz2 := (sizeL_le (HST0.out.take (k + 1))).2
        unfold Bnd at hbd
        obtain ⟨s, hs'⟩ : ∃ s, s = L.getD k (0, 0) := ⟨_, rfl⟩
        rw [← hs'] at c1 c2 hct hbd HC0
        obtain ⟨lo, hlo⟩ : ∃ lo : Nat, s.1 = lo := ⟨s.1.toNat, by omega⟩
        obtain ⟨h8, hh8⟩ : ∃ h8 : Nat, s.2 = h8 := ⟨s.2.toNat, by omega⟩
        unfold Cell2 at HC0
        rw [hlo, hh8] at hbd HC0
        rw [hlo] at c1
        rw [hh8] at c2
        have hcs : covS s = cov lo h8 := by simp [covS, hlo, hh8]
        rw [hcs] at hct
        have HC := hide hct
        have HZ : Hid (((covL (L.take k)).length : Int) + (cov lo h8).length ≤ 4294967296) := by
          unfold Hid
          rw [hct, List.length_append] at hsz
          omega
        generalize covL (L.take k) = P at *
        clear hct hsz hsz2 hcs hlo hh8 hs' hc
        have HO1 := hide HO.out
        clear HO
        have HQW := hide (Nat.le_refl w.heap.size)
        rename World => wL
        go_wp2
        go_loopw [5, 7] (fun o x wq => ∃ (at' : Nat) (D : List Spn), x = .int .i64 at' ∧ at' ≤ 4294967296 ∧ Hid (cov lo h8 = D ++ cov at' h8) ∧ Hid (OwnT 28 wq w.heap.size o (P ++ D)) ∧ Below w.heap.size w wq) (fun _ x _ => h8 + 1 - (RowKit.intOf x).toNat)
        case atStart => exact ⟨lo, [], rfl, by omega, rfl, by rw [List.append_nil]; exact HO1.out, HQ.out⟩
        case round =>
          obtain ⟨at', D, rfl, hat', HD, HO2, hq2⟩ := hrel
          have HQ2 := hide hq2
          clear hq2 c1 c2
          have y1 : wr.cell? ⟨b, off + k * 2 + 1, none⟩ = some (.int .i64 (h8 : Int)) := (HQ2.out.cell (p := ⟨b, _, none⟩) hb).trans HC0.out.2
          have hbr : b < wr.heap.size := Nat.lt_of_lt_of_le hb HQ2.out.size
          by_cases hle : at' ≤ h8
          · have hle2 : (at' : Int) ≤ h8 := by omega
            rename World => wM
            go_wp2
            go_loopw [8] (fun x wq => ∃ bt' : Nat, x = .int .i64 bt' ∧ bt' ≤ 32 ∧ Hid (wid at' h8 32 = wid at' h8 bt') ∧ Below wM.heap.size wM wq) (fun x _ => (RowKit.intOf x).toNat)
            case atStart => exact ⟨32, rfl, Nat.le_refl _, rfl, Below.refl _ _⟩
            case round =>
              obtain ⟨bt', rfl, hb32, HW, hq3⟩ := hrel
              have HQ3 := hide hq3
              have q1 := (hq3.cell (p := ⟨b, off + k * 2 + 1, none⟩) hbr).trans y1
              have hbr3 : b < wr.heap.size := Nat.lt_of_lt_of_le hbr hq3.size
              have HDr : Hid (Below wr.heap.size wr wr.drew) := (Below.refl _ _).drew
              clear hq3
              by_cases h0 : bt' = 0
              · have hN0 : ¬ 0 < bt' := by omega
                have hk0 : ¬ (0 : Int) < (bt' : Int) := by omega
                have hg0 : decide ((0 : Int) < (bt' : Int)) = false := decide_eq_false hk0
                have HE : Hid (wd at' h8 = bt') := by
                  unfold Hid wd
                  rw [HW.out, h0]
                  rfl
                clear h0
                go_wp2
                refine wp_region_quiet (C := fun w' => Below wr.heap.size wr w') (by kernel_rfl) (by kernel_rfl) HDr.out ?_
                refine QW.out (l := _ :: _) ?_
                iterate 3 (refine QW.take (by rfl) ?_; apply Exists.intro; refine ⟨fun w' hw' => ?_, ?_⟩; (· (skip; go_simp; first | done | ((try simp only [hg0]); first | done | rfl))); try simp only [Act.put, List.setIfInBounds_toArray, List.set_cons_zero, List.set_cons_succ])
                iterate 6 (refine QW.skip (by rfl) ?_; try simp only [Act.put, List.setIfInBounds_toArray, List.set_cons_zero, List.set_cons_succ])
                iterate 2 (refine QW.take (by rfl) ?_; apply Exists.intro; refine ⟨fun w' hw' => ?_, ?_⟩; (· (skip; go_simp; first | done | ((try simp only [hg0]); first | done | rfl))); try simp only [Act.put, List.setIfInBounds_toArray, List.set_cons_zero, List.set_cons_succ])
                iterate 12 (refine QW.skip (by rfl) ?_; try simp only [Act.put, List.setIfInBounds_toArray, List.set_cons_zero, List.set_cons_succ])
                iterate 1 (refine QW.take (by rfl) ?_; apply Exists.intro; refine ⟨fun w' hw' => ?_, ?_⟩; (· (skip; go_simp; first | done | ((try simp only [hg0]); first | done | rfl))); try simp only [Act.put, List.setIfInBounds_toArray, List.set_cons_zero, List.set_cons_succ])
                refine QW.nil ?_
                intro w7 x7
                have X7 := hide (bt HQ3.out x7 (Nat.le_refl _))
                have HX7 := hide (bt HQ2.out X7.out HQW.out)
                clear x7 q1
                have hft := wd_fits hle
                rw [HE.out] at hft
                have hst := cov_step hle
                rw [HE.out] at hst
                have hzz := fun w => size_any bt' hb32 w
                have hpo2 : 0 < 2 ^ (32 - bt') := Nat.pow_pos (by decide)
                have hfit : at' + 2 ^ (32 - bt') - 1 ≤ h8 := hft.2
                have HSP : Hid (cov lo h8 = (D ++ [((at' : Int), (bt' : Int))]) ++ cov (at' + 2 ^ (32 - bt')) h8) := by
                  unfold Hid
                  rw [HD.out, hst]
                  simp
                have HLN : Hid ((P ++ D).length + 1 ≤ 4294967296) := by
                  unfold Hid
                  have := HZ.out
                  rw [HD.out, hst] at this
                  simp only [List.length_append, List.length_cons] at this ⊢
                  omega
                have HO7 := hide ((HO2.out.below X7.out).below (al (Below.refl _ _) (.cells #[.int .i64 (at' : Int), .int .i64 (bt' : Int)] 28)))
                have HN7 := hide (new_cells 28 w7 ((at' : Int), (bt' : Int)) w7.heap.size rfl)
                have X8 := hide (al HX7.out (.cells #[.int .i64 (at' : Int), .int .i64 (bt' : Int)] 28))
                clear hft hst
                generalize 2 ^ (32 - bt') = S2 at *
                have fs2 : (at' : Int) + S2 ≤ 4294967296 := by omega
                go_wp2_with (first
                  | (at_builtin; refine wpList_append_own_at _ rfl (.tmp 57) (.tmp 61) 44 rfl w.heap.size 28 i0 (.agg #[.int .i64 0, .int .i64 0]) 2 16 Tryd.underlying44 hi hz0 hz1 hz2 rfl (by decide) _ (P ++ D).length (spCells (P ++ D)) rfl HO7.out ⟨w7.heap.size, 0, none⟩ 1 1 [.int .i64 (at' : Int), .int .i64 (bt' : Int)] rfl rfl HN7.out (by simp [Value.oneCell']) (by have := HLN.out; unfold maxLen; omega) (by have := HLN.out; omega) X8.out.size ?_; intro v8 w8 h1 h2 _ h3; have O8 := hide (OwnT.snoc (s := ((at' : Int), (bt' : Int))) h1); have X9 := hide (X8.out.grown h2 X8.out.size (fun k hk => (HO7.out.lt k hk).1)); clear h1 h2 h3)
                  | (go_at_call 40; refine (hzz _).mono ?_; rintro e w9 ⟨rfl, hw9⟩; subst hw9))
                go_roundw
                case rel => exact ⟨at' + S2, D ++ [((at' : Int), (bt' : Int))], by go_num, by omega, HSP, by rw [← List.append_assoc]; exact O8.out, X9.out⟩
                case measure => simp [RowKit.intOf]; omega
              · have hN0 : 0 < bt' := by omega
                have hk0 : (0 : Int) < (bt' : Int) := by omega
                have hg0 : decide ((0 : Int) < (bt' : Int)) = true := decide_eq_true hk0
                have hsp := fun w => size_pred bt' hN0 hb32 w
                have hpw : 2 ^ (32 - (bt' - 1)) ≤ 4294967296 := Nat.pow_le_pow_right (n := 2) (by decide) (show 32 - (bt' - 1) ≤ 32 by omega)
                have hpo : 0 < 2 ^ (32 - (bt' - 1)) := Nat.pow_pos (by decide)
                have hstep : wid at' h8 bt' = if fits at' h8 (bt' - 1) then wid at' h8 (bt' - 1) else bt' := by
                  obtain ⟨c, rfl⟩ : ∃ c, bt' = c + 1 := ⟨bt' - 1, by omega⟩
                  rfl
                have hfd : fits at' h8 (bt' - 1) ↔ (at' % 2 ^ (32 - (bt' - 1)) = 0 ∧ at' + 2 ^ (32 - (bt' - 1)) - 1 ≤ h8) := Iff.rfl
                have HST := hide hstep
                have HFD := hide hfd
                clear hstep hfd
                generalize 2 ^ (32 - (bt' - 1)) = S at *
                have fb : IntKind.i64.wrap ((bt' : Int) - 1) = (bt' : Int) - 1 := by simp [IntKind.wrap, IntKind.bits, IntKind.signed]; omega
                have hm : (at' : Int).tmod S = ((at' % S : Nat) : Int) := by rw [Int.tmod_eq_emod_of_nonneg (by omega)]; omega
                have hS : ¬ S = 0 := by omega
                have fs : IntKind.i64.wrap ((at' : Int) + S) = (at' : Int) + S := by simp [IntKind.wrap, IntKind.bits, IntKind.signed]; omega
                have ft : IntKind.i64.wrap ((at' : Int) + S - 1) = (at' : Int) + S - 1 := by simp [IntKind.wrap, IntKind.bits, IntKind.signed]; omega
                by_cases hmz : at' % S = 0
                · have hgm : (((at' % S : Nat) : Int) == 0) = true := by rw [hmz]; rfl
                  generalize at' % S = z at *
                  by_cases hf : at' + S - 1 ≤ h8
                  · have hf2 : (at' : Int) + S - 1 ≤ h8 := by omega
                    have hgf : decide ((at' : Int) + S - 1 ≤ h8) = true := decide_eq_true hf2
                    have HE : Hid (wid at' h8 32 = wid at' h8 (bt' - 1)) := by
                      unfold Hid
                      rw [HW.out, HST.out, if_pos (HFD.out.2 ⟨hmz, hf⟩)]
                    clear hmz hf
                    go_wp2
                    refine wp_region_quiet (C := fun w' => Below wr.heap.size wr w') (by kernel_rfl) (by kernel_rfl) HDr.out ?_
                    refine QW.out (l := _ :: _) ?_
                    iterate 6 (refine QW.take (by rfl) ?_; apply Exists.intro; refine ⟨fun w' hw' => ?_, ?_⟩; (· (have g0 := (hw'.cell (p := ⟨b, off + k * 2 + 1, none⟩) hbr3).trans q1; go_simp; first | done | ((try simp only [hg0, hgm, hgf]); first | done | rfl))); try simp only [Act.put, List.setIfInBounds_toArray, List.set_cons_zero, List.set_cons_succ])
                    iterate 1 (refine QW.take (by rfl) ?_; apply Exists.intro; refine ⟨fun w' hw' => ?_, ?_⟩; (· (have g0 := (hw'.cell (p := ⟨b, off + k * 2 + 1, none⟩) hbr3).trans q1; go_simp; (refine (hsp _).mono ?_; rintro e w2 ⟨rfl, rfl⟩; exact ⟨rfl, hw'⟩))); try simp only [Act.put, List.setIfInBounds_toArray, List.set_cons_zero, List.set_cons_succ])
                    iterate 7 (refine QW.take (by rfl) ?_; apply Exists.intro; refine ⟨fun w' hw' => ?_, ?_⟩; (· (have g0 := (hw'.cell (p := ⟨b, off + k * 2 + 1, none⟩) hbr3).trans q1; go_simp; first | done | ((try simp only [hg0, hgm, hgf]); first | done | rfl))); try simp only [Act.put, List.setIfInBounds_toArray, List.set_cons_zero, List.set_cons_succ])
                    iterate 1 (refine QW.take (by rfl) ?_; apply Exists.intro; refine ⟨fun w' hw' => ?_, ?_⟩; (· (have g0 := (hw'.cell (p := ⟨b, off + k * 2 + 1, none⟩) hbr3).trans q1; go_simp; (refine (hsp _).mono ?_; rintro e w2 ⟨rfl, rfl⟩; exact ⟨rfl, hw'⟩))); try simp only [Act.put, List.setIfInBounds_toArray, List.set_cons_zero, List.set_cons_succ])
                    iterate 9 (refine QW.take (by rfl) ?_; apply Exists.intro; refine ⟨fun w' hw' => ?_, ?_⟩; (· (have g0 := (hw'.cell (p := ⟨b, off + k * 2 + 1, none⟩) hbr3).trans q1; go_simp; first | done | ((try simp only [hg0, hgm, hgf]); first | done | rfl))); try simp only [Act.put, List.setIfInBounds_toArray, List.set_cons_zero, List.set_cons_succ])
                    refine QW.nil ?_
                    intro w7 x7
                    have X7 := hide (bt HQ3.out x7 (Nat.le_refl _))
                    clear x7 q1
                    go_wp2
                    go_roundw
                    case rel => exact ⟨bt' - 1, by go_num, by omega, HE.out, X7.out⟩
                    case measure => simp [RowKit.intOf]; omega
                  · have hf2 : ¬ (at' : Int) + S - 1 ≤ h8 := by omega
                    have hgf : decide ((at' : Int) + S - 1 ≤ h8) = false := decide_eq_false hf2
                    have HE : Hid (wd at' h8 = bt') := by
                      unfold Hid wd
                      rw [HW.out, HST.out, if_neg (fun h => hf (HFD.out.1 h).2)]
                    clear hmz hf
                    go_wp2
                    refine wp_region_quiet (C := fun w' => Below wr.heap.size wr w') (by kernel_rfl) (by kernel_rfl) HDr.out ?_
                    refine QW.out (l := _ :: _) ?_
                    iterate 6 (refine QW.take (by rfl) ?_; apply Exists.intro; refine ⟨fun w' hw' => ?_, ?_⟩; (· (have g0 := (hw'.cell (p := ⟨b, off + k * 2 + 1, none⟩) hbr3).trans q1; go_simp; first | done | ((try simp only [hg0, hgm, hgf]); first | done | rfl))); try simp only [Act.put, List.setIfInBounds_toArray, List.set_cons_zero, List.set_cons_succ])
                    iterate 1 (refine QW.take (by rfl) ?_; apply Exists.intro; refine ⟨fun w' hw' => ?_, ?_⟩; (· (have g0 := (hw'.cell (p := ⟨b, off + k * 2 + 1, none⟩) hbr3).trans q1; go_simp; (refine (hsp _).mono ?_; rintro e w2 ⟨rfl, rfl⟩; exact ⟨rfl, hw'⟩))); try simp only [Act.put, List.setIfInBounds_toArray, List.set_cons_zero, List.set_cons_succ])
                    iterate 7 (refine QW.take (by rfl) ?_; apply Exists.intro; refine ⟨fun w' hw' => ?_, ?_⟩; (· (have g0 := (hw'.cell (p := ⟨b, off + k * 2 + 1, none⟩) hbr3).trans q1; go_simp; first | done | ((try simp only [hg0, hgm, hgf]); first | done | rfl))); try simp only [Act.put, List.setIfInBounds_toArray, List.set_cons_zero, List.set_cons_succ])
                    iterate 1 (refine QW.take (by rfl) ?_; apply Exists.intro; refine ⟨fun w' hw' => ?_, ?_⟩; (· (have g0 := (hw'.cell (p := ⟨b, off + k * 2 + 1, none⟩) hbr3).trans q1; go_simp; (refine (hsp _).mono ?_; rintro e w2 ⟨rfl, rfl⟩; exact ⟨rfl, hw'⟩))); try simp only [Act.put, List.setIfInBounds_toArray, List.set_cons_zero, List.set_cons_succ])
                    iterate 9 (refine QW.take (by rfl) ?_; apply Exists.intro; refine ⟨fun w' hw' => ?_, ?_⟩; (· (have g0 := (hw'.cell (p := ⟨b, off + k * 2 + 1, none⟩) hbr3).trans q1; go_simp; first | done | ((try simp only [hg0, hgm, hgf]); first | done | rfl))); try simp only [Act.put, List.setIfInBounds_toArray, List.set_cons_zero, List.set_cons_succ])
                    refine QW.nil ?_
                    intro w7 x7
                    have X7 := hide (bt HQ3.out x7 (Nat.le_refl _))
                    have HX7 := hide (bt HQ2.out X7.out HQW.out)
                    clear x7 q1
                    have hft := wd_fits hle
                    rw [HE.out] at hft
                    have hst := cov_step hle
                    rw [HE.out] at hst
                    have hzz := fun w => size_any bt' hb32 w
                    have hpo2 : 0 < 2 ^ (32 - bt') := Nat.pow_pos (by decide)
                    have hfit : at' + 2 ^ (32 - bt') - 1 ≤ h8 := hft.2
                    have HSP : Hid (cov lo h8 = (D ++ [((at' : Int), (bt' : Int))]) ++ cov (at' + 2 ^ (32 - bt')) h8) := by
                      unfold Hid
                      rw [HD.out, hst]
                      simp
                    have HLN : Hid ((P ++ D).length + 1 ≤ 4294967296) := by
                      unfold Hid
                      have := HZ.out
                      rw [HD.out, hst] at this
                      simp only [List.length_append, List.length_cons] at this ⊢
                      omega
                    have HO7 := hide ((HO2.out.below X7.out).below (al (Below.refl _ _) (.cells #[.int .i64 (at' : Int), .int .i64 (bt' : Int)] 28)))
                    have HN7 := hide (new_cells 28 w7 ((at' : Int), (bt' : Int)) w7.heap.size rfl)
                    have X8 := hide (al HX7.out (.cells #[.int .i64 (at' : Int), .int .i64 (bt' : Int)] 28))
                    clear hft hst
                    generalize 2 ^ (32 - bt') = S2 at *
                    have fs2 : (at' : Int) + S2 ≤ 4294967296 := by omega
                    go_wp2_with (first
                      | (at_builtin; refine wpList_append_own_at _ rfl (.tmp 57) (.tmp 61) 44 rfl w.heap.size 28 i0 (.agg #[.int .i64 0, .int .i64 0]) 2 16 Tryd.underlying44 hi hz0 hz1 hz2 rfl (by decide) _ (P ++ D).length (spCells (P ++ D)) rfl HO7.out ⟨w7.heap.size, 0, none⟩ 1 1 [.int .i64 (at' : Int), .int .i64 (bt' : Int)] rfl rfl HN7.out (by simp [Value.oneCell']) (by have := HLN.out; unfold maxLen; omega) (by have := HLN.out; omega) X8.out.size ?_; intro v8 w8 h1 h2 _ h3; have O8 := hide (OwnT.snoc (s := ((at' : Int), (bt' : Int))) h1); have X9 := hide (X8.out.grown h2 X8.out.size (fun k hk => (HO7.out.lt k hk).1)); clear h1 h2 h3)
                      | (go_at_call 40; refine (hzz _).mono ?_; rintro e w9 ⟨rfl, hw9⟩; subst hw9))
                    go_roundw
                    case rel => exact ⟨at' + S2, D ++ [((at' : Int), (bt' : Int))], by go_num, by omega, HSP, by rw [← List.append_assoc]; exact O8.out, X9.out⟩
                    case measure => simp [RowKit.intOf]; omega
                · have hgm : (((at' % S : Nat) : Int) == 0) = false := by rw [beq_eq_false_iff_ne]; omega
                  have HE : Hid (wd at' h8 = bt') := by
                    unfold Hid wd
                    rw [HW.out, HST.out, if_neg (fun h => hmz (HFD.out.1 h).1)]
                  generalize at' % S = z at *
                  clear hmz
                  go_wp2
                  refine wp_region_quiet (C := fun w' => Below wr.heap.size wr w') (by kernel_rfl) (by kernel_rfl) HDr.out ?_
                  refine QW.out (l := _ :: _) ?_
                  iterate 6 (refine QW.take (by rfl) ?_; apply Exists.intro; refine ⟨fun w' hw' => ?_, ?_⟩; (· (have g0 := (hw'.cell (p := ⟨b, off + k * 2 + 1, none⟩) hbr3).trans q1; go_simp; first | done | ((try simp only [hg0, hgm]); first | done | rfl))); try simp only [Act.put, List.setIfInBounds_toArray, List.set_cons_zero, List.set_cons_succ])
                  iterate 1 (refine QW.take (by rfl) ?_; apply Exists.intro; refine ⟨fun w' hw' => ?_, ?_⟩; (· (have g0 := (hw'.cell (p := ⟨b, off + k * 2 + 1, none⟩) hbr3).trans q1; go_simp; (refine (hsp _).mono ?_; rintro e w2 ⟨rfl, rfl⟩; exact ⟨rfl, hw'⟩))); try simp only [Act.put, List.setIfInBounds_toArray, List.set_cons_zero, List.set_cons_succ])
                  iterate 4 (refine QW.take (by rfl) ?_; apply Exists.intro; refine ⟨fun w' hw' => ?_, ?_⟩; (· (have g0 := (hw'.cell (p := ⟨b, off + k * 2 + 1, none⟩) hbr3).trans q1; go_simp; first | done | ((try simp only [hg0, hgm]); first | done | rfl))); try simp only [Act.put, List.setIfInBounds_toArray, List.set_cons_zero, List.set_cons_succ])
                  iterate 12 (refine QW.skip (by rfl) ?_; try simp only [Act.put, List.setIfInBounds_toArray, List.set_cons_zero, List.set_cons_succ])
                  iterate 1 (refine QW.take (by rfl) ?_; apply Exists.intro; refine ⟨fun w' hw' => ?_, ?_⟩; (· (have g0 := (hw'.cell (p := ⟨b, off + k * 2 + 1, none⟩) hbr3).trans q1; go_simp; first | done | ((try simp only [hg0, hgm]); first | done | rfl))); try simp only [Act.put, List.setIfInBounds_toArray, List.set_cons_zero, List.set_cons_succ])
                  refine QW.nil ?_
                  intro w7 x7
                  have X7 := hide (bt HQ3.out x7 (Nat.le_refl _))
                  have HX7 := hide (bt HQ2.out X7.out HQW.out)
                  clear x7 q1
                  have hft := wd_fits hle
                  rw [HE.out] at hft
                  have hst := cov_step hle
                  rw [HE.out] at hst
                  have hzz := fun w => size_any bt' hb32 w
                  have hpo2 : 0 < 2 ^ (32 - bt') := Nat.pow_pos (by decide)
                  have hfit : at' + 2 ^ (32 - bt') - 1 ≤ h8 := hft.2
                  have HSP : Hid (cov lo h8 = (D ++ [((at' : Int), (bt' : Int))]) ++ cov (at' + 2 ^ (32 - bt')) h8) := by
                    unfold Hid
                    rw [HD.out, hst]
                    simp
                  have HLN : Hid ((P ++ D).length + 1 ≤ 4294967296) := by
                    unfold Hid
                    have := HZ.out
                    rw [HD.out, hst] at this
                    simp only [List.length_append, List.length_cons] at this ⊢
                    omega
                  have HO7 := hide ((HO2.out.below X7.out).below (al (Below.refl _ _) (.cells #[.int .i64 (at' : Int), .int .i64 (bt' : Int)] 28)))
                  have HN7 := hide (new_cells 28 w7 ((at' : Int), (bt' : Int)) w7.heap.size rfl)
                  have X8 := hide (al HX7.out (.cells #[.int .i64 (at' : Int), .int .i64 (bt' : Int)] 28))
                  clear hft hst
                  generalize 2 ^ (32 - bt') = S2 at *
                  have fs2 : (at' : Int) + S2 ≤ 4294967296 := by omega
                  go_wp2_with (first
                    | (at_builtin; refine wpList_append_own_at _ rfl (.tmp 57) (.tmp 61) 44 rfl w.heap.size 28 i0 (.agg #[.int .i64 0, .int .i64 0]) 2 16 Tryd.underlying44 hi hz0 hz1 hz2 rfl (by decide) _ (P ++ D).length (spCells (P ++ D)) rfl HO7.out ⟨w7.heap.size, 0, none⟩ 1 1 [.int .i64 (at' : Int), .int .i64 (bt' : Int)] rfl rfl HN7.out (by simp [Value.oneCell']) (by have := HLN.out; unfold maxLen; omega) (by have := HLN.out; omega) X8.out.size ?_; intro v8 w8 h1 h2 _ h3; have O8 := hide (OwnT.snoc (s := ((at' : Int), (bt' : Int))) h1); have X9 := hide (X8.out.grown h2 X8.out.size (fun k hk => (HO7.out.lt k hk).1)); clear h1 h2 h3)
                    | (go_at_call 40; refine (hzz _).mono ?_; rintro e w9 ⟨rfl, hw9⟩; subst hw9))
                  go_roundw
                  case rel => exact ⟨at' + S2, D ++ [((at' : Int), (bt' : Int))], by go_num, by omega, HSP, by rw [← List.append_assoc]; exact O8.out, X9.out⟩
                  case measure => simp [RowKit.intOf]; omega
          · have hle2 : ¬ (at' : Int) ≤ h8 := by omega
            have hdn : cov at' h8 = [] := cov_done (by omega)
            have HE : Hid (covL (L.take (k + 1)) = P ++ D) := by
              unfold Hid
              rw [HC.out, HD.out, hdn, List.append_nil]
            clear hdn
            go_wp2
            go_roundw
            case rel => exact ⟨k + 1, by omega, by go_num, by rw [HE.out]; exact HO2.out, HQ2.out⟩
            case measure => simp [RowKit.intOf]; omega
      · have h8 : k = L.length := by omega
        subst h8
        have hlt' : ¬ (L.length : Int) < L.length := by omega
        rw [List.take_length] at HO
        go_wp2
        go_ret2
        exact ⟨.inl ⟨HST0.out, _, rfl, HO.out⟩, HQ.out⟩
  · rw [decide_eq_false hs] at hr
    clear hat
    go_enter Tryd.func21, Tryd.ntmps21
    go_wp2_with (go_at_call 43; refine hr.mono ?_; rintro e w1 ⟨rfl, x1⟩; have X1 := hide x1; clear x1)
    go_ret2
    exact ⟨.inr ⟨hs, rfl⟩, X1.out⟩
end Go.Proofs.YtfjifedfenpbbaaDoor
