/-
  TrieSame, walked: whatever it is given, it answers true; nothing that was there has turned. Condition: numbers are of the machine's kind, the list takes no more than a process can hold.
-/
import Derived.Test.YtnfdjbaafiifnaaTb
namespace Go.Proofs.Ytnfdjbaafiifnaa
open Go.RowKit Go.Lib

theorem newL_any (l : Int) (hl : Lab l) (w : World) : Calls Try.prog 9 #[.int .i64 l] w fun e w' => (∃ b, e = .returned (.tuple #[.pointer (some ⟨b, 0, none⟩), .int .i64 0]) ∧ TrieAt w' (.leaf l) (.pointer (some ⟨b, 0, none⟩)) ∧ w.heap.size ≤ b) ∧ Below w.heap.size w w' := (new_any l w).mono fun e w' ⟨h, x⟩ => by
  rcases h with ⟨_, v, h1, h2, b, rfl, h3⟩ | ⟨h1, _⟩
  · exact ⟨⟨b, h1, h2, h3⟩, x⟩
  · exact absurd hl h1
theorem lab_pk (c : Int) : Lab ((pkZ c 65536 : Nat) : Int) := by
  have := pkZ_lt c (n := 65536) (by decide)
  unfold Lab
  omega

set_option maxRecDepth 100000 in
set_option maxHeartbeats 8000000 in
theorem trieSame_any (first by' : Int) (ao : Option Addr) (cap : Nat) (L : List RZ) (w : World) (hfi : Fit first) (hby : Fit by') (hl : L.length ≤ 140737488351232) (hf : ∀ r ∈ L, FitR r) (hat : RwAt w ao L) :
    Calls Try.prog 6 #[.int .i64 first, .slice ao L.length cap, .int .i64 by'] w fun e w' => e = .returned (.bool true) ∧ Below w.heap.size w w' := by
  by_cases hlen : L.length ≤ 33554431
  · have hp1 := fun w => pick_any first 65536 hfi (by decide) (by decide) w
    have HLB := hide (lab_pk first)
    obtain ⟨s0, hs0⟩ : ∃ s0, Hid (s0 = pkZ first 65536) := ⟨_, rfl⟩
    rw [← hs0.out] at HLB
    simp only [← hs0.out] at hp1
    have HP1 := hide hp1
    have HAT := hide hat
    have HF := hide hf
    clear hp1 hat hf
    go_enter Try.func6, Try.ntmps6
    go_wp2_with (fail)
    refine (awake_any _).mono ?_
    rintro e w1 ⟨rfl, x1⟩
    have X1 := hide x1
    clear x1
    go_wp2_with (fail)
    refine (HP1.out _).mono ?_
    rintro e w1' ⟨rfl, hw⟩
    have hw := hw.symm
    subst hw
    go_wp2_with (fail)
    refine (newL_any _ HLB.out _).mono ?_
    rintro e w2 ⟨⟨b1, rfl, t2, hb1⟩, x2⟩
    have T2 := hide t2
    have X2 := hide (bt X1.out x2 (Nat.le_refl _))
    have HB1 : Hid (w.heap.size ≤ b1) := Nat.le_trans X1.out.size hb1
    clear x2 t2 hb1
    go_wp2_with (fail)
    refine (newL_any 0 (by decide) _).mono ?_
    rintro e w3 ⟨⟨b2, rfl, u3, hb2⟩, x3⟩
    have T3 := hide (T2.out.below x3)
    have U3 := hide u3
    have X3 := hide (bt X2.out x3 (Nat.le_refl _))
    have HNE : Hid (b1 ≠ b2) := by have := T2.out.lt; unfold Hid; omega
    have HB2 : Hid (w.heap.size ≤ b2) := Nat.le_trans X2.out.size hb2
    clear x3 u3 hb2
    go_wp2_with (fail)
    refine (fit_any ao cap L _ hlen HF.out (HAT.out.below X3.out)).mono ?_
    rintro e w4 ⟨⟨va, rfl, a4⟩, x4⟩
    have T4 := hide (T3.out.below x4)
    have U4 := hide (U3.out.below x4)
    have A4 := hide (own_mono a4 X3.out.size)
    have X4 := hide (bt X3.out x4 (Nat.le_refl _))
    have HAL : Hid (∀ r ∈ L.map ftZ, Al r ∧ Lab r.2) := fun r hr => by
      obtain ⟨z, _, rfl⟩ := List.mem_map.1 hr
      exact ⟨ft_al z, ft_lab z⟩
    have HLN : Hid ((L.map ftZ).length = L.length) := by unfold Hid; simp
    obtain ⟨aA, cA, rfl, hpA⟩ := own_shape a4
    have HPA := hide hpA
    clear hpA
    clear x4 a4
    generalize L.map ftZ = A at *
    rw [HLN.out]
    rw [HLN.out] at A4
    have HG0 := hide (Good.leaf HLB.out)
    go_wp2
    go_loopw [14] (fun x wr => ∃ k : Nat, k ≤ L.length ∧ x = .int .i64 k ∧ Hid (TrieAt wr (putAll (.leaf (s0 : Nat)) (A.take k)) (.pointer (some ⟨b1, 0, none⟩))) ∧ Hid (TrieAt wr (.leaf 0) (.pointer (some ⟨b2, 0, none⟩))) ∧ Hid (wr.ownsRow w.heap.size 56 3 (.slice aA L.length cA) A.length (rwCells A)) ∧ Hid (Below w.heap.size w wr)) (fun x _ => L.length - (RowKit.intOf x).toNat)
    case atStart => exact ⟨0, Nat.zero_le _, rfl, T4, U4, by rw [HLN.out]; exact A4, X4⟩
    case round =>
      obtain ⟨k, hk, rfl, T, U, AA, X⟩ := hrel
      rename World => wr
      by_cases hlt : k < L.length
      · have hlt' : (k : Int) < (L.length : Int) := by omega
        have hkA : k < A.length := by rw [HLN.out]; exact hlt
        obtain ⟨ga, rfl⟩ := HPA.out (by omega)
        obtain ⟨c1, c2, c3⟩ := own_cell3 AA.out k hkA
        have HTK : Hid (A.take (k + 1) = A.take k ++ [A[k]]) := List.take_succ_eq_append_getElem hkA
        have hal := HAL.out _ (List.getElem_mem hkA)
        have HNX := hide (fun W w' (x : Below wr.heap.size wr W) (hk : Kept (fun z => z = b1) W w') => (show TrieAt w' (.leaf 0) (.pointer (some ⟨b2, 0, none⟩)) ∧ w'.ownsRow w.heap.size 56 3 (.slice (some ⟨ga, 0, none⟩) L.length cA) A.length (rwCells A) ∧ Below w.heap.size w w' from ⟨(U.out.below x).other (T.out.below x) HNE.out.symm hk, own_kept73 (own_below AA.out x) (by decide) (T.out.below x) hk, (bt X.out x (Nat.le_refl _)).trans (hk.below (Nat.le_trans X.out.size x.size) (fun z hz => by rw [hz]; exact HB1.out))⟩))
        have HCE := hide (fun (w' : World) (h : w'.ownsRow w.heap.size 56 3 (.slice (some ⟨ga, 0, none⟩) L.length cA) A.length (rwCells A)) => own_cell3 h k hkA)
        have HPU := hide (fun W (x : Below wr.heap.size wr W) => putR_any A[k] W hal.1 hal.2 (T.out.below x))
        generalize A[k] = r at *
        clear hal
        go_wp2
        go_region_held3 (fun w' => w'.cell? ⟨ga, k * 3, none⟩ = some (.int .i64 (r.1.1 : Nat)) ∧ w'.cell? ⟨ga, k * 3 + 1, none⟩ = some (.int .i64 (r.1.2 : Nat)) ∧ w'.cell? ⟨ga, k * 3 + 2, none⟩ = some (.int .i64 r.2)) (first | assumption | (simp [go_sem, *]; done))
          (first | (go_at_call 18; refine (HPU.out _ (Below.refl _ _).drew).mono ?_; rintro e w5 ⟨rfl, t5, k5⟩; have T5 := hide t5; obtain ⟨u5, a5, x5⟩ := HNX.out _ _ (Below.refl _ _).drew k5; have U5 := hide u5; have A5 := hide a5; have X5 := hide x5; obtain ⟨d1, d2, d3⟩ := HCE.out _ a5; clear t5 k5 u5 a5 x5))
        clear c1 c2 c3 d1 d2 d3
        go_wp2
        go_roundw
        case rel => exact ⟨k + 1, by omega, by go_num, by unfold Hid; rw [HTK.out, putAll_snoc]; exact T5.out, U5, A5, X5⟩
        case measure => simp [RowKit.intOf]; omega
      · have hkl : k = L.length := by omega
        subst hkl
        rw [show A.take L.length = A by rw [← HLN.out, List.take_length]] at T
        have HGD : Hid (Good (putAll (.leaf (s0 : Nat)) A)) := HG0.out.putAll HAL.out
        generalize putAll (.leaf (s0 : Nat)) A = tt at *
        clear HPA T4 U4 A4 X4 AA
        go_wp2_with (fail)
        refine (rows_any _ HGD.out.dep T.out).mono ?_
        rintro e w6 ⟨⟨vt, rfl, r6⟩, x6⟩
        have T6 := hide (T.out.below x6)
        have U6 := hide (U.out.below x6)
        have R6 := hide (own_mono r6 X.out.size)
        have X6 := hide (bt X.out x6 (Nat.le_refl _))
        have HRW := hide HGD.out.rows
        have HRL := hide HGD.out.len
        obtain ⟨aR, cR, rfl, hpR⟩ := own_shape r6
        have HPR := hide hpR
        clear r6 x6 hpR T U X
        obtain ⟨R, HR⟩ : ∃ R, Hid (R = tt.rows 0 0) := ⟨_, rfl⟩
        rw [← HR.out] at R6 HRW HRL HPR
        rw [← HR.out]
        have hRl := HRL.out
        have hw1 : IntKind.i64.wrap ((R.length : Int) - 1) = (R.length : Int) - 1 := by simp [IntKind.wrap, IntKind.bits, IntKind.signed]; omega
        go_wp2
        go_loopw [16] (fun x wr => ∃ m : Nat, m ≤ R.length ∧ x = .int .i64 ((m : Int) - 1) ∧ Hid (TrieAt wr tt (.pointer (some ⟨b1, 0, none⟩))) ∧ Hid (TrieAt wr (putAll (.leaf 0) (R.drop m).reverse) (.pointer (some ⟨b2, 0, none⟩))) ∧ Hid (wr.ownsRow w.heap.size 65 3 (.slice aR R.length cR) R.length (rwCells R)) ∧ Hid (Below w.heap.size w wr)) (fun x _ => (RowKit.intOf x + 1).toNat)
        case atStart => exact ⟨R.length, Nat.le_refl _, rfl, T6, by unfold Hid; rw [List.drop_length]; exact U6, R6, X6⟩
        case round =>
          obtain ⟨m, hm, rfl, T, U, RR, X⟩ := hrel
          rename World => wr
          match m, hm, U with
          | n + 1, hm, U =>
            rw [show ((n + 1 : Nat) : Int) - 1 = (n : Int) by omega]
            have hn' : (n : Int) < (R.length : Int) := by omega
            have hnR : n < R.length := by omega
            obtain ⟨ga, rfl⟩ := HPR.out (by omega)
            obtain ⟨c1, c2, c3⟩ := own_cell3 RR.out n hnR
            have HTK : Hid ((R.drop n).reverse = (R.drop (n + 1)).reverse ++ [R[n]]) := by unfold Hid; rw [List.drop_eq_getElem_cons hnR, List.reverse_cons]
            have hal := HRW.out _ (List.getElem_mem hnR)
            have HNX := hide (fun W w' (x : Below wr.heap.size wr W) (hk : Kept (fun z => z = b2) W w') => (show TrieAt w' tt (.pointer (some ⟨b1, 0, none⟩)) ∧ w'.ownsRow w.heap.size 65 3 (.slice (some ⟨ga, 0, none⟩) R.length cR) R.length (rwCells R) ∧ Below w.heap.size w w' from ⟨(T.out.below x).other (U.out.below x) HNE.out hk, own_kept73 (own_below RR.out x) (by decide) (U.out.below x) hk, (bt X.out x (Nat.le_refl _)).trans (hk.below (Nat.le_trans X.out.size x.size) (fun z hz => by rw [hz]; exact HB2.out))⟩))
            have HCE := hide (fun (w' : World) (h : w'.ownsRow w.heap.size 65 3 (.slice (some ⟨ga, 0, none⟩) R.length cR) R.length (rwCells R)) => own_cell3 h n hnR)
            have HPU := hide (fun W (x : Below wr.heap.size wr W) => putR_any R[n] W hal.1 hal.2 (U.out.below x))
            generalize R[n] = r at *
            clear hal
            go_wp2
            go_region_held3 (fun w' => w'.cell? ⟨ga, n * 3, none⟩ = some (.int .i64 (r.1.1 : Nat)) ∧ w'.cell? ⟨ga, n * 3 + 1, none⟩ = some (.int .i64 (r.1.2 : Nat)) ∧ w'.cell? ⟨ga, n * 3 + 2, none⟩ = some (.int .i64 r.2)) (first | assumption | (simp [go_sem, *]; done))
              (first | (go_at_call 18; refine (HPU.out _ (Below.refl _ _).drew).mono ?_; rintro e w7 ⟨rfl, u7, k7⟩; have U7 := hide u7; obtain ⟨t7, a7, x7⟩ := HNX.out _ _ (Below.refl _ _).drew k7; have T7 := hide t7; have A7 := hide a7; have X7 := hide x7; obtain ⟨d1, d2, d3⟩ := HCE.out _ a7; clear t7 k7 u7 a7 x7))
            clear c1 c2 c3 d1 d2 d3
            go_wp2
            go_roundw
            case rel => exact ⟨n, by omega, by go_num, T7, by unfold Hid; rw [HTK.out, putAll_snoc]; exact U7.out, A7, X7⟩
            case measure => simp [RowKit.intOf]
          | 0, hm, U =>
            have HUT : Hid (putAll (.leaf 0) (R.drop 0).reverse = tt) := putAll_rows HGD.out.nf HGD.out.dep (Good.leaf (by decide)).nf (Good.leaf (l := 0) (by decide)).dep (fun r => by rw [HR.out]; simp)
            rw [HUT.out] at U
            have hmk := make_any (zr R) aR cR wr (by rw [zr_length]; omega) (by rw [zr_length]; exact own_le_cap RR.out) (own_zr RR.out)
            rw [zr_length] at hmk
            have HMK := hide hmk
            clear hmk
            rw [show (((0 : Nat) : Int)) - 1 = -1 from rfl]
            go_wp2_with (fail)
            refine HMK.out.mono ?_
            rintro e w8 ⟨h, x8⟩
            have HRD : Hid (rdT 32 0 0 (zr R) = some (tt, [])) := by
              have := rdT_rows tt 0 0 32 [] HGD.out.nf HGD.out.labs HGD.out.dep
              rw [List.append_nil, ← HR.out] at this
              exact this
            obtain ⟨b3, rfl, v8, hb3⟩ : ∃ b3, e = .returned (.tuple #[.pointer (some ⟨b3, 0, none⟩), .int .i64 0]) ∧ TrieAt w8 tt (.pointer (some ⟨b3, 0, none⟩)) ∧ wr.heap.size ≤ b3 := by
              rcases h with ⟨t8, b3, h1, h2, h3, h4⟩ | ⟨h1, _⟩
              · have := HRD.out.symm.trans h1
                injection this with this
                injection this with this _
                exact ⟨b3, h2, by rw [this]; exact h3, h4⟩
              · exact absurd HRD.out (h1 _)
            have T8 := hide (T.out.below x8)
            have U8 := hide (U.out.below x8)
            have V8 := hide v8
            have R8 := hide (own_below RR.out x8)
            have X8 := hide (bt X.out x8 (Nat.le_refl _))
            have HB3 : Hid (w.heap.size ≤ b3) := Nat.le_trans X.out.size hb3
            have H13 : Hid (b1 ≠ b3) := by have := T.out.lt; unfold Hid; omega
            have H23 : Hid (b2 ≠ b3) := by have := U.out.lt; unfold Hid; omega
            clear h x8 v8 hb3 HMK T U RR X HUT HPR T6 U6 R6 X6
            obtain ⟨s1, hs1⟩ : ∃ s1, Hid (s1 = pkZ by' 65536) := ⟨_, rfl⟩
            have hs1l : s1 < 65536 := by rw [hs1.out]; exact pkZ_lt _ (by decide)
            have hpb := fun w => pick_any by' 65536 hby (by decide) (by decide) w
            simp only [← hs1.out] at hpb
            have HPB := hide hpb
            clear hpb
            obtain ⟨i3, hj, hy0, hy1, hy2⟩ := info_parts Try.info3
            go_wp2
            go_loopw [20, 21, 22] (fun th bk x wr => ∃ k : Nat, k ≤ 65536 ∧ x = .int .i64 k ∧ Hid (TbS w8 th bk (thL s1 k) (bkL s1 k) wr)) (fun _ _ x _ => 65536 - (RowKit.intOf x).toNat)
            case atStart => exact ⟨0, by omega, rfl, TbS.nil _⟩
            case round =>
              obtain ⟨k, hk, rfl, S⟩ := hrel
              rename World => wq
              by_cases hk2 : k < 65536
              · have hk3 : (k : Int) ≤ 65535 := by omega
                have hp2 : ∀ w, Calls Try.prog 11 #[.int .i64 ((k : Int) + (s1 : Int)), .int .i64 65536] w fun e w' => e = .returned (.int .i64 (((k + s1) % 65536 : Nat) : Int)) ∧ w' = w := fun w => by
                  have := pick_any ((k : Int) + (s1 : Int)) 65536 (by unfold Fit; omega) (by decide) (by decide) w
                  rwa [show pkZ ((k : Int) + (s1 : Int)) 65536 = (k + s1) % 65536 by unfold pkZ; rw [if_neg (by omega)]; congr 1] at this
                have hp3 : ∀ w, Calls Try.prog 11 #[.int .i64 ((k : Int) + 65536 - (s1 : Int)), .int .i64 65536] w fun e w' => e = .returned (.int .i64 (((k + 65536 - s1) % 65536 : Nat) : Int)) ∧ w' = w := fun w => by
                  have := pick_any ((k : Int) + 65536 - (s1 : Int)) 65536 (by unfold Fit; omega) (by decide) (by decide) w
                  rwa [show pkZ ((k : Int) + 65536 - (s1 : Int)) 65536 = (k + 65536 - s1) % 65536 by unfold pkZ; rw [if_neg (by omega)]; congr 1; omega] at this
                have HP2 := hide hp2
                have HP3 := hide hp3
                clear hp2 hp3
                obtain ⟨f, HFk⟩ : ∃ f, Hid (f = (k + s1) % 65536) := ⟨_, rfl⟩
                obtain ⟨g, HGk⟩ : ∃ g, Hid (g = (k + 65536 - s1) % 65536) := ⟨_, rfl⟩
                rw [← HFk.out] at HP2
                rw [← HGk.out] at HP3
                go_wp2_with (fail)
                refine (HPB.out _).mono ?_
                rintro e w9 ⟨rfl, hw9⟩
                have hw9 := hw9.symm
                subst hw9
                go_wp2_with (fail)
                refine (HP2.out _).mono ?_
                rintro e w9 ⟨rfl, hw9⟩
                have hw9 := hw9.symm
                subst hw9
                rename World => wq
                have S2 := hide (S.out.next (al (Below.refl _ wq) (.cells #[.int .i64 (f : Nat)] 3)))
                have HN2 := hide (one_cell 3 wq (.int .i64 (f : Nat)))
                have HZL : Hid ((thL s1 k).length = k) := thL_length _ _
                have HYL : Hid ((bkL s1 k).length = k) := bkL_length _ _
                have HTH : Hid (thL s1 (k + 1) = thL s1 k ++ [((f : Nat) : Int)]) := by unfold Hid; rw [thL_succ, HFk.out]
                have HBK : Hid (bkL s1 (k + 1) = bkL s1 k ++ [((g : Nat) : Int)]) := by unfold Hid; rw [bkL_succ, HGk.out]
                go_wp2_with (at_builtin; refine wpList_append_view rfl (.tmp 119) (.tmp 125) 43 rfl w8.heap.size 3 i3 (.int .i64 0) 1 8 Try.underlying43 hj hy0 hy1 hy2 rfl (by decide) _ (thL s1 k).length (zCells (thL s1 k)) rfl S2.out.zrow ⟨wq.heap.size, 0, none⟩ 1 1 [.int .i64 (f : Nat)] rfl rfl HN2.out (by simp [Value.oneCell']) (by decide) (by have := HZL.out; unfold maxLen; omega) (by have := HZL.out; omega) S2.out.below.size ?_; intro v3 w3 h1 h2; have S3 := hide (S2.out.pushZ _ h1 h2); clear h1 h2)
                refine (HPB.out _).mono ?_
                rintro e w10 ⟨rfl, hw10⟩
                subst hw10
                go_wp2_with (fail)
                refine (HP3.out _).mono ?_
                rintro e w11 ⟨rfl, hw11⟩
                subst hw11
                rename World => w10
                have S4 := hide (S3.out.next (al (Below.refl _ w10) (.cells #[.int .i64 (g : Nat)] 3)))
                have HN4 := hide (one_cell 3 w10 (.int .i64 (g : Nat)))
                go_wp2_with (at_builtin; refine wpList_append_view rfl (.tmp 127) (.tmp 135) 43 rfl w8.heap.size 3 i3 (.int .i64 0) 1 8 Try.underlying43 hj hy0 hy1 hy2 rfl (by decide) _ (bkL s1 k).length (zCells (bkL s1 k)) rfl S4.out.yrow ⟨w10.heap.size, 0, none⟩ 1 1 [.int .i64 (g : Nat)] rfl rfl HN4.out (by simp [Value.oneCell']) (by decide) (by have := HYL.out; unfold maxLen; omega) (by have := HYL.out; omega) S4.out.below.size ?_; intro v5 w5 h1 h2; have S5 := hide (S4.out.pushY _ h1 h2); clear h1 h2)
                go_roundw
                case rel => exact ⟨k + 1, by omega, by go_num, by rw [HTH.out, HBK.out]; exact S5⟩
                case measure => simp [RowKit.intOf]; omega
              · have HK : Hid (k = 65536) := show k = 65536 by omega
                have hk3 : ¬ (k : Int) ≤ 65535 := by omega
                obtain ⟨P1, P2, P3, P4⟩ := turned HGD.out HK.out hs1l
                obtain ⟨aZ, cZ, hth, hz⟩ := own_zat S.out.zrow
                obtain ⟨aY, cY, hbk, hy⟩ := own_zat S.out.yrow
                subst hth hbk
                have hYr := S.out.yrow
                have HZL : Hid ((thL s1 k).length ≤ 140737488351232) := by unfold Hid; rw [thL_length]; omega
                have HYL : Hid ((bkL s1 k).length ≤ 140737488351232) := by unfold Hid; rw [bkL_length]; omega
                have XX : Below w8.heap.size w8 wq := S.out.below
                have T9 := hide (T8.out.below XX)
                have U9 := hide (U8.out.below XX)
                have V9 := hide (V8.out.below XX)
                have R9 := hide (own_below R8.out XX)
                have X9 := hide (bt X8.out XX (Nat.le_refl _))
                have HZ := hide hz
                have HYR := hide hYr
                have HP1 := hide P1
                have HP2 := hide P2
                have HP3 := hide P3
                have HP4 := hide P4
                clear XX hz hy hYr P1 P2 P3 P4 S T8 U8 V8 R8 X8
                go_wp2_with (fail)
                refine (mapT_any (thL s1 k) _ HZL.out HGD.out.labs HZ.out V9.out).mono ?_
                rintro e w10 ⟨h10, k10⟩
                obtain ⟨rfl, v10⟩ : e = .returned (.int .i64 0) ∧ TrieAt w10 (tt.map (tr (thL s1 k))) (.pointer (some ⟨b3, 0, none⟩)) := by
                  rcases h10 with ⟨_, h1, h2⟩ | ⟨h1, _⟩
                  · exact ⟨h1, h2⟩
                  · exact absurd HP1.out h1
                have T10 := hide (T9.out.other V9.out H13.out k10)
                have U10 := hide (U9.out.other V9.out H23.out k10)
                have V10 := hide v10
                have R10 := hide (own_kept73 R9.out (by decide) V9.out k10)
                have Y10 := hide (own_kept73 HYR.out (by decide) V9.out k10)
                have X10 := hide (X9.out.trans (k10.below X9.out.size (fun z hz => by rw [hz]; exact HB3.out)))
                clear h10 k10 v10 T9 U9 V9 R9 X9
                obtain ⟨aY', cY', hbk, hyz⟩ := own_zat Y10.out
                injection hbk with e1 _ e2
                subst e1 e2
                have HYZ := hide hyz
                clear hyz
                go_wp2_with (fail)
                refine (mapT_any (bkL s1 k) _ HYL.out HP2.out HYZ.out V10.out).mono ?_
                rintro e w11 ⟨h11, k11⟩
                obtain ⟨rfl, v11⟩ : e = .returned (.int .i64 0) ∧ TrieAt w11 tt (.pointer (some ⟨b3, 0, none⟩)) := by
                  rcases h11 with ⟨_, h1, h2⟩ | ⟨h1, _⟩
                  · exact ⟨h1, by rw [HP4.out] at h2; exact h2⟩
                  · exact absurd HP3.out h1
                have T11 := hide (T10.out.other V10.out H13.out k11)
                have U11 := hide (U10.out.other V10.out H23.out k11)
                have V11 := hide v11
                have R11 := hide (own_kept73 R10.out (by decide) V10.out k11)
                have X11 := hide (X10.out.trans (k11.below X10.out.size (fun z hz => by rw [hz]; exact HB3.out)))
                clear h11 k11 v11 T10 U10 V10 R10 X10 Y10
                go_wp2_with (fail)
                refine (rows_any _ HGD.out.dep U11.out).mono ?_
                rintro e w12 ⟨⟨q12, rfl, r12⟩, x12⟩
                rw [← HR.out] at r12
                obtain ⟨aq, cq, rfl, _⟩ := own_shape r12
                have hrs := rowsSame_any aq aR cq cR (zr R) w12 (by rw [zr_length]; omega) (own_zr r12) (own_zr (own_below R11.out x12))
                rw [zr_length] at hrs
                have HRS := hide hrs
                have T12 := hide (T11.out.below x12)
                have V12 := hide (V11.out.below x12)
                have R12 := hide (own_below R11.out x12)
                have X12 := hide (bt X11.out x12 (Nat.le_refl _))
                clear x12 r12 hrs T11 U11 V11 R11 X11
                go_wp2_with (fail)
                refine HRS.out.mono ?_
                rintro e w13 ⟨rfl, x13⟩
                have T13 := hide (T12.out.below x13)
                have V13 := hide (V12.out.below x13)
                have R13 := hide (own_below R12.out x13)
                have X13 := hide (bt X12.out x13 (Nat.le_refl _))
                clear x13 HRS T12 V12 R12 X12
                go_wp2_with (fail)
                refine (rows_any _ HGD.out.dep V13.out).mono ?_
                rintro e w14 ⟨⟨q14, rfl, r14⟩, x14⟩
                rw [← HR.out] at r14
                obtain ⟨av, cv, rfl, _⟩ := own_shape r14
                have hrs := rowsSame_any av aR cv cR (zr R) w14 (by rw [zr_length]; omega) (own_zr r14) (own_zr (own_below R13.out x14))
                rw [zr_length] at hrs
                have HRS := hide hrs
                have T14 := hide (T13.out.below x14)
                have R14 := hide (own_below R13.out x14)
                have X14 := hide (bt X13.out x14 (Nat.le_refl _))
                clear x14 r14 hrs T13 V13 R13 X13
                go_wp2_with (fail)
                refine HRS.out.mono ?_
                rintro e w15 ⟨rfl, x15⟩
                have T15 := hide (T14.out.below x15)
                have R15 := hide (own_below R14.out x15)
                have X15 := hide (bt X14.out x15 (Nat.le_refl _))
                clear x15 HRS T14 R14 X14
                go_wp2_with (fail)
                refine (rows_any _ HGD.out.dep T15.out).mono ?_
                rintro e w16 ⟨⟨q16, rfl, r16⟩, x16⟩
                rw [← HR.out] at r16
                obtain ⟨aw, cw, rfl, _⟩ := own_shape r16
                have hrs := rowsSame_any aw aR cw cR (zr R) w16 (by rw [zr_length]; omega) (own_zr r16) (own_zr (own_below R15.out x16))
                rw [zr_length] at hrs
                have HRS := hide hrs
                have X16 := hide (bt X15.out x16 (Nat.le_refl _))
                clear x16 r16 hrs T15 R15 X15
                go_wp2_with (fail)
                refine HRS.out.mono ?_
                rintro e w17 ⟨rfl, x17⟩
                have X17 := hide (bt X16.out x17 (Nat.le_refl _))
                clear x17 HRS X16
                go_wp2
                go_ret
                exact ⟨rfl, X17.out⟩
  · have h1 : ¬ (L.length : Int) ≤ 33554431 := by omega
    go_enter Try.func6, Try.ntmps6
    go_wp2
    go_ret
    exact ⟨rfl, Below.refl _ _⟩
end Go.Proofs.Ytnfdjbaafiifnaa
