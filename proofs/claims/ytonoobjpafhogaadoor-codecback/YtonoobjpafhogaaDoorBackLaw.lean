/-
  CodecBack, walked: of any items and any text it answers true; nothing that was there has turned. Conditions: the numbers are ints, each text and the items are no longer than a process can hold; the cell of errors.errorType holds the handle of 'error'.
-/
import Derived.Test.YtonoobjpafhogaaDoorBackF
import Derived.Test.YtonoobjpafhogaaDoorSize2
import Derived.Laws.AppendOwn
namespace Go.Proofs.YtonoobjpafhogaaDoor
open Go.RowKit

theorem Tryd.info9 : (Tryd.prog.info? 9).map (fun i => (i.zero, i.size, i.bytes)) = some (some (.string ⟨#[]⟩), 1, 16) := by kernel_rfl

set_option maxRecDepth 100000 in
set_option maxHeartbeats 20000000 in
theorem codecBack_any (ao : Option Addr) (len cap : Nat) (f : Nat → OpD) (more : ByteArray) (hmore : more.size ≤ 140737488351232) (w : World) (hsc : Scr w ao len f) (hg : HG w) :
    Calls Tryd.prog 6 #[.slice ao len cap, .string more] w fun e w' => e = .returned (.bool true) ∧ Below w.heap.size w w' := by
  have HSC := hide hsc
  have hlen : len ≤ 140737488351232 := hsc.1
  have HGG := hide hg
  have hpos := hg.pos
  clear hsc hg
  go_enter Tryd.func6, Tryd.ntmps6
  go_wp2_with fail
  refine (add2_any (more.size : Int) 1 (by omega) (by omega) (by omega) (by omega) _).mono ?_
  rintro e w1 ⟨rfl, h1⟩
  have h1' := h1.symm
  clear h1
  subst h1'
  obtain ⟨c1, c2, c3⟩ := addI_bounds (more.size : Int) 1 (by omega) (by omega)
  have HC : Hid (addI (more.size : Int) 1 ≤ 2147483647 → addI (more.size : Int) 1 = wgt more.size f 0) := by intro h; rw [c3 h]; simp [wgt]
  clear c3
  generalize addI (more.size : Int) 1 = N0 at c1 c2 HC ⊢
  go_wp2
  go_loopw [5, 6] (fun t i wr => ∃ (k : Nat) (N : Int), k ≤ len ∧ i = .int .i64 k ∧ t = .int .i64 N ∧ 0 ≤ N ∧ N ≤ 2147483648 ∧ Hid (N ≤ 2147483647 → N = wgt more.size f k) ∧ Hid (Below w.heap.size w wr)) (fun _ i _ => len - (intOf i).toNat)
  case atStart => exact ⟨0, N0, Nat.zero_le _, rfl, rfl, c1, c2, HC.out, Below.refl _ _⟩
  case round =>
    clear c1 c2 HC
    obtain ⟨k, N, hk, rfl, rfl, hN0, hN1, hW, HQ⟩ := hrel
    by_cases hlt : k < len
    · by_cases hN : N ≤ 2147483647
      · obtain ⟨_, hok, h0 | ⟨sb, so, rfl, hsb, hat⟩⟩ := HSC.out
        · omega
        have ho := (hok k hlt).s
        have hs : wr.cell? ⟨sb, so + k * 5 + 4, none⟩ = some (.string (f k).s) := (HQ.out.cell (p := ⟨sb, _, none⟩) hsb).trans (hat k hlt).s
        obtain ⟨u1, u2, u3⟩ := addI_bounds N 100 hN0 (by decide)
        obtain ⟨x1, x2, x3⟩ := addI_bounds ((f k).s.size : Int) ((f k).s.size : Int) (by omega) (by omega)
        obtain ⟨v1, v2, v3⟩ := addI_bounds (addI N 100) (addI ((f k).s.size : Int) ((f k).s.size : Int)) u1 x1
        have HW : Hid (addI (addI N 100) (addI ((f k).s.size : Int) ((f k).s.size : Int)) ≤ 2147483647 → addI (addI N 100) (addI ((f k).s.size : Int) ((f k).s.size : Int)) = wgt more.size f (k + 1)) := by
          intro h
          have e1 := v3 h
          have e2 := u3 (by omega)
          have e4 := x3 (by omega)
          have e3 := hW.out hN
          simp only [wgt]
          omega
        clear u3 v3 x3 hat hok HSC
        go_wp2
        go_quiet ((go_at_call 18; exact Calls.quiet_of_same (add2_any _ _ (by omega) (by omega) (by omega) (by omega) _)))
        go_wp2
        go_roundw
        case rel => exact ⟨k + 1, _, by omega, by go_num, rfl, v1, v2, HW.out, HQ.out.trans ⟨rfl, rfl, rfl, Nat.le_refl _, fun _ _ => rfl⟩⟩
        case measure => simp [intOf]; omega
      · go_wp2
        go_ret
        exact ⟨rfl, HQ.out⟩
    have h8 : len = k := by omega
    subst h8
    by_cases hN : N ≤ 2147483647
    · have hWL : wgt more.size f len ≤ 2147483647 := by have := hW.out hN; omega
      have HWL := hide hWL
      clear hWL hW hlt
      go_wp2_with fail
      refine (awake_any _ (HGG.out.below HQ.out hpos)).mono ?_
      rintro e w2 ⟨rfl, hb2⟩
      have HB2 : Hid (Below w.heap.size w w2) := HQ.out.trans (hb2.mono HQ.out.size)
      clear hb2 HQ
      go_wp2_with fail
      refine (newWriter_at 2147483647 (by decide) _).mono ?_
      rintro e w3 ⟨rfl, x3, y3, z3⟩
      generalize e3 : w2.heap.size = wb at x3 y3 z3 ⊢
      have M := hide (pst_start (f := f) HGG.out HB2.out x3 y3 z3 e3)
      clear x3 y3 z3 e3 HB2 HGG
      go_wp2
      go_loopw [9] (fun i wr => ∃ k : Nat, k ≤ len ∧ i = .int .i64 k ∧ Hid (PSt w.heap.size wb f w wr k)) (fun i _ => len - (intOf i).toNat)
      case atStart => exact ⟨0, Nat.zero_le _, rfl, M.out⟩
      case round =>
        obtain ⟨k, hk, rfl, hst⟩ := hrel
        by_cases hlt : k < len
        · obtain ⟨_, hok, h0 | ⟨sb, so, rfl, hsb, hat⟩⟩ := HSC.out
          · omega
          have HO := hide (hok k hlt)
          obtain ⟨a1, a2, a3, a4, a5⟩ := (hat k hlt).below hst.out.below hsb
          clear hok hat HSC
          go_wp2_with fail
          refine (puts_st hst.out hlt HWL.out HO.out).mono ?_
          rintro e w5 ⟨rfl, h5⟩
          have H5 := hide h5
          clear h5 a1 a2 a3 a4 a5
          go_wp2
          go_roundw
          case rel => exact ⟨k + 1, by omega, by go_num, H5.out⟩
          case measure => simp [intOf]; omega
        have h8 : len = k := by omega
        subst h8
        clear M hlt
        go_wp2_with fail
        refine (done_st hst.out).mono ?_
        rintro e w6 ⟨rfl, h6⟩
        have H6 := hide h6
        clear h6 hst
        have hL : (str (encs f len)).size + more.size + 1 ≤ 2147483647 := by rw [str_size]; exact Nat.le_trans (encs_length more.size f len) HWL.out
        have hem1 : encs f len = [] → (str (encs f len)).toList.isEmpty = true := fun hE => by rw [hE]; decide +kernel
        have hem2 : encs f len ≠ [] → (str (encs f len)).toList.isEmpty = false := fun hE => by rw [ByteArray.toList_eq, str_toList]; simpa using hE
        generalize hT : str (encs f len) = T at hL hem1 hem2 ⊢
        have HT := hide hT
        clear hT
        have hx1 : (ByteArray.mk #[120]).size = 1 := rfl
        have hL2 : (T ++ ByteArray.mk #[120]).size = T.size + 1 := by rw [ByteArray.size_append]; rfl
        by_cases hE : encs f len = []
        · have hem := hem1 hE
          have KN := hide (td_txt (f := f) (len := len) (m := 2) (more := more.data.toList) (by rw [len_list]; exact HWL.out) (.inl rfl))
          clear hem1 hem2 hE
          go_wp2
          have TS : Hid (TSt w.heap.size w6.heap.size (w6.heap.size + 1) 2 (tD f len more.data.toList) w ((w6.alloc (.cells #[.string T, .string (T ++ ByteArray.mk #[120] ++ more)] 9)).alloc (.cells #[.int .i64 0, .int .i64 13, .int .i64 12] 48))) := ts2 (more := more) H6.out HT.out
          generalize (w6.alloc (.cells #[.string T, .string (T ++ ByteArray.mk #[120] ++ more)] 9)).alloc (.cells #[.int .i64 0, .int .i64 13, .int .i64 12] 48) = W at TS ⊢
          generalize w6.heap.size + 1 = qb at TS ⊢
          generalize w6.heap.size = g at TS ⊢
          clear H6
          clear HT hL hem hL2 hx1
          generalize tD f len more.data.toList = D at TS KN
          go_loopw [14] (fun i wr => ∃ k : Nat, k ≤ 2 ∧ i = .int .i64 k ∧ Hid (TSt w.heap.size g qb 2 D w wr)) (fun i _ => 2 - (intOf i).toNat)
          case atStart => exact ⟨0, Nat.zero_le _, rfl, TS.out⟩
          case round =>
            clear TS
            obtain ⟨k, hk, rfl, hst⟩ := hrel
            by_cases hlt : k < 2
            · obtain ⟨t1, t2, t3⟩ := KN.out k hlt
              have T1 := hide t1; have T2 := hide t2; have T3 := hide t3
              have ht := hst.out.tx k hlt
              clear t1 t2 t3
              go_wp2_with fail
              refine (reader_st hst.out k).mono ?_
              rintro e w9 ⟨rb, rfl, h9⟩
              have H9 := hide h9
              clear h9 ht hst
              go_wp2
              go_loopw [16] (fun i wr => ∃ j : Nat, j ≤ len ∧ i = .int .i64 j ∧ ∃ E R, Hid (RS w.heap.size g qb 2 rb D w wr E R) ∧ Hid (IR f (k = 2) (D k) j E R)) (fun i _ => len - (intOf i).toNat)
              case atStart => exact ⟨0, Nat.zero_le _, rfl, 0, _, H9.out, .inl ⟨rfl, rfl⟩⟩
              case round =>
                clear H9
                obtain ⟨j, hj, rfl, E, R, hrs, hir⟩ := hrel
                by_cases hlt2 : j < len
                · obtain ⟨_, hok, h0 | ⟨sb, so, rfl, hsb, hat⟩⟩ := HSC.out
                  · omega
                  have HO := hide (hok j hlt2)
                  obtain ⟨a1, a2, a3, a4, a5⟩ := (hat j hlt2).below hrs.out.ts.below hsb
                  clear hok hat HSC
                  go_wp2_with fail
                  refine (gets_st hrs.out hlt2 HO.out T1.out T2.out hir.out).mono ?_
                  rintro e w10 ⟨v, rfl, hv, E', R', h10, i10⟩
                  have H10 := hide h10; have I10 := hide i10
                  clear h10 i10 a1 a2 a3 a4 a5 hrs hir
                  cases v
                  · have hk2 : k = 2 := Decidable.byContradiction (fun h => by simpa using hv h)
                    omega
                  · clear hv
                    go_wp2
                    go_roundw
                    case rel => exact ⟨j + 1, by omega, by go_num, E', R', H10.out, I10.out⟩
                    case measure => simp [intOf]; omega
                have h8 : len = j := by omega
                subst h8
                clear hlt2
                obtain ⟨d1, d2⟩ := T3.out E R hir.out
                have wq := hrs.out.ts.wt k hlt
                clear hir T1 T2 T3
                rcases (show k = 0 ∨ k = 1 by omega) with rfl | rfl
                · have c2 : cW 0 = 0 := rfl
                  rw [c2] at d1 wq
                  have HD1 := hide d1
                  clear d1 d2 c2
                  go_wp2
                  have hD : RS w.heap.size g qb 2 rb D w _ E R := hrs.out.quiet ((Below.refl _ _).drew)
                  have wq2 := hD.ts.wt 0 hlt
                  have c2 : cW 0 = 0 := rfl
                  rw [c2] at wq2
                  refine wp_region_quiet (C := fun w' => RS w.heap.size g qb 2 rb D w w' E R) (by kernel_rfl) (by kernel_rfl) hD ?_
                  clear hD wq wq2
                  show wpQuiet _ _ _ _ (_ :: _) _
                  repeat (first
                    | (refine wpQuiet_step (fun K hK => ?_); rw [if_neg (Bool.eq_false_iff.1 (by rfl))]; refine hK _ ?_; clear hK K; try simp only [Act.put, List.setIfInBounds_toArray, List.set_cons_zero, List.set_cons_succ])
                    | (refine wpQuiet_step (fun K hK => ?_); rw [if_pos (by rfl)]; apply Exists.intro; refine ⟨fun w' hw' => ?_, hK _ ?_⟩; (· (have hq := hw'.ts.wt 0 hlt; rw [c2] at hq; have HW := hide hw'; clear hw'; go_simp; first | done | rfl | (refine (rdone_st HW.out).mono ?_; rintro e w11 ⟨rfl, x11⟩; rw [HD1.out]; exact ⟨rfl, x11⟩))); clear hK K; try simp only [Act.put, List.setIfInBounds_toArray, List.set_cons_zero, List.set_cons_succ]))
                  refine wpQuiet_nil ?_
                  intro w11 x11
                  have M11 := hide x11.ts
                  clear x11 c2
                  go_wp2
                  go_roundw
                  case rel => exact ⟨0 + 1, by omega, by go_num, M11.out⟩
                  case measure => simp [intOf]
                · have c2 : cW 1 = 13 := rfl
                  rw [c2] at d1 wq
                  have HD1 := hide d1
                  clear d1 d2 c2
                  go_wp2
                  have hD : RS w.heap.size g qb 2 rb D w _ E R := hrs.out.quiet ((Below.refl _ _).drew)
                  have wq2 := hD.ts.wt 1 hlt
                  have c2 : cW 1 = 13 := rfl
                  rw [c2] at wq2
                  refine wp_region_quiet (C := fun w' => RS w.heap.size g qb 2 rb D w w' E R) (by kernel_rfl) (by kernel_rfl) hD ?_
                  clear hD wq wq2
                  show wpQuiet _ _ _ _ (_ :: _) _
                  repeat (first
                    | (refine wpQuiet_step (fun K hK => ?_); rw [if_neg (Bool.eq_false_iff.1 (by rfl))]; refine hK _ ?_; clear hK K; try simp only [Act.put, List.setIfInBounds_toArray, List.set_cons_zero, List.set_cons_succ])
                    | (refine wpQuiet_step (fun K hK => ?_); rw [if_pos (by rfl)]; apply Exists.intro; refine ⟨fun w' hw' => ?_, hK _ ?_⟩; (· (have hq := hw'.ts.wt 1 hlt; rw [c2] at hq; have HW := hide hw'; clear hw'; go_simp; first | done | rfl | (refine (rdone_st HW.out).mono ?_; rintro e w11 ⟨rfl, x11⟩; rw [HD1.out]; exact ⟨rfl, x11⟩))); clear hK K; try simp only [Act.put, List.setIfInBounds_toArray, List.set_cons_zero, List.set_cons_succ]))
                  refine wpQuiet_nil ?_
                  intro w11 x11
                  have M11 := hide x11.ts
                  clear x11 c2
                  go_wp2
                  go_roundw
                  case rel => exact ⟨1 + 1, by omega, by go_num, M11.out⟩
                  case measure => simp [intOf]
            · go_wp2
              go_ret
              exact ⟨rfl, hst.out.below⟩
        · have hem := hem2 hE
          have KN := hide (td_txt (f := f) (len := len) (m := 3) (more := more.data.toList) (by rw [len_list]; exact HWL.out) (.inr ⟨rfl, hE⟩))
          have hT1 : 1 ≤ T.size := by
            rw [← HT.out, str_size]
            exact List.length_pos_iff.2 hE
          obtain ⟨i0, hi, hz0, hz1, hz2⟩ := info_parts Tryd.info9
          have HN3 := hide (news3 w6 T (T ++ ByteArray.mk #[120] ++ more) (T.extract 0 (T.size - 1)))
          have HO3 := hide (own2 H6.out T (T ++ ByteArray.mk #[120] ++ more) (T.extract 0 (T.size - 1)))
          have HBS : Hid (w.heap.size ≤ (W3 w6 T (T ++ ByteArray.mk #[120] ++ more) (T.extract 0 (T.size - 1))).heap.size) := Nat.le_trans H6.out.ns (below_w3 w6 _ _ _).size
          clear hem1 hem2 hE
          go_wp2_with (at_builtin; refine wpList_append_own _ rfl (.tmp 85) (.tmp 91) 57 rfl w.heap.size 9 i0 (.string ⟨#[]⟩) 1 16 Tryd.underlying57 hi hz0 hz1 hz2 rfl (by decide) _ 2 [.string T, .string (T ++ ByteArray.mk #[120] ++ more)] rfl HO3.out ⟨w6.heap.size + 1 + 1, 0, none⟩ 1 1 [.string (T.extract 0 (T.size - 1))] rfl rfl HN3.out (by simp [Value.oneCell']) (by unfold maxLen; omega) (by omega) HBS.out ?_; intro v8 w8 hown8 hgrow8 hiff8; obtain ⟨g, cap8, hv8, ts8⟩ := ts3 H6.out HT.out hown8 hgrow8; subst hv8; have TS := hide ts8; clear hown8 hgrow8 hiff8 ts8)
          generalize w6.heap.size + 1 = qb at TS ⊢
          clear H6 HN3 HO3 HBS hi hz0 hz1 hz2 hT1
          clear HT hL hem hL2 hx1
          generalize tD f len more.data.toList = D at TS KN
          go_loopw [14] (fun i wr => ∃ k : Nat, k ≤ 3 ∧ i = .int .i64 k ∧ Hid (TSt w.heap.size g qb 3 D w wr)) (fun i _ => 3 - (intOf i).toNat)
          case atStart => exact ⟨0, Nat.zero_le _, rfl, TS.out⟩
          case round =>
            clear TS
            obtain ⟨k, hk, rfl, hst⟩ := hrel
            by_cases hlt : k < 3
            · obtain ⟨t1, t2, t3⟩ := KN.out k hlt
              have T1 := hide t1; have T2 := hide t2; have T3 := hide t3
              have ht := hst.out.tx k hlt
              clear t1 t2 t3
              go_wp2_with fail
              refine (reader_st hst.out k).mono ?_
              rintro e w9 ⟨rb, rfl, h9⟩
              have H9 := hide h9
              clear h9 ht hst
              go_wp2
              go_loopw [16] (fun i wr => ∃ j : Nat, j ≤ len ∧ i = .int .i64 j ∧ ∃ E R, Hid (RS w.heap.size g qb 3 rb D w wr E R) ∧ Hid (IR f (k = 2) (D k) j E R)) (fun i _ => len - (intOf i).toNat)
              case atStart => exact ⟨0, Nat.zero_le _, rfl, 0, _, H9.out, .inl ⟨rfl, rfl⟩⟩
              case round =>
                clear H9
                obtain ⟨j, hj, rfl, E, R, hrs, hir⟩ := hrel
                by_cases hlt2 : j < len
                · obtain ⟨_, hok, h0 | ⟨sb, so, rfl, hsb, hat⟩⟩ := HSC.out
                  · omega
                  have HO := hide (hok j hlt2)
                  obtain ⟨a1, a2, a3, a4, a5⟩ := (hat j hlt2).below hrs.out.ts.below hsb
                  clear hok hat HSC
                  go_wp2_with fail
                  refine (gets_st hrs.out hlt2 HO.out T1.out T2.out hir.out).mono ?_
                  rintro e w10 ⟨v, rfl, hv, E', R', h10, i10⟩
                  have H10 := hide h10; have I10 := hide i10
                  clear h10 i10 a1 a2 a3 a4 a5 hrs hir
                  cases v
                  · have hk2 : k = 2 := Decidable.byContradiction (fun h => by simpa using hv h)
                    have hk3 : 2 ≤ k := by omega
                    clear hv hk2
                    go_wp2
                    go_roundw
                    case rel => exact ⟨j + 1, by omega, by go_num, E', R', H10.out, I10.out⟩
                    case measure => simp [intOf]; omega
                  · clear hv
                    go_wp2
                    go_roundw
                    case rel => exact ⟨j + 1, by omega, by go_num, E', R', H10.out, I10.out⟩
                    case measure => simp [intOf]; omega
                have h8 : len = j := by omega
                subst h8
                clear hlt2
                obtain ⟨d1, d2⟩ := T3.out E R hir.out
                have wq := hrs.out.ts.wt k hlt
                clear hir T1 T2 T3
                rcases (show k = 0 ∨ k = 1 ∨ k = 2 by omega) with rfl | rfl | rfl
                · have c2 : cW 0 = 0 := rfl
                  rw [c2] at d1 wq
                  have HD1 := hide d1
                  clear d1 d2 c2
                  go_wp2
                  have hD : RS w.heap.size g qb 3 rb D w _ E R := hrs.out.quiet ((Below.refl _ _).drew)
                  have wq2 := hD.ts.wt 0 hlt
                  have c2 : cW 0 = 0 := rfl
                  rw [c2] at wq2
                  refine wp_region_quiet (C := fun w' => RS w.heap.size g qb 3 rb D w w' E R) (by kernel_rfl) (by kernel_rfl) hD ?_
                  clear hD wq wq2
                  show wpQuiet _ _ _ _ (_ :: _) _
                  repeat (first
                    | (refine wpQuiet_step (fun K hK => ?_); rw [if_neg (Bool.eq_false_iff.1 (by rfl))]; refine hK _ ?_; clear hK K; try simp only [Act.put, List.setIfInBounds_toArray, List.set_cons_zero, List.set_cons_succ])
                    | (refine wpQuiet_step (fun K hK => ?_); rw [if_pos (by rfl)]; apply Exists.intro; refine ⟨fun w' hw' => ?_, hK _ ?_⟩; (· (have hq := hw'.ts.wt 0 hlt; rw [c2] at hq; have HW := hide hw'; clear hw'; go_simp; first | done | rfl | (refine (rdone_st HW.out).mono ?_; rintro e w11 ⟨rfl, x11⟩; rw [HD1.out]; exact ⟨rfl, x11⟩))); clear hK K; try simp only [Act.put, List.setIfInBounds_toArray, List.set_cons_zero, List.set_cons_succ]))
                  refine wpQuiet_nil ?_
                  intro w11 x11
                  have M11 := hide x11.ts
                  clear x11 c2
                  go_wp2
                  go_roundw
                  case rel => exact ⟨0 + 1, by omega, by go_num, M11.out⟩
                  case measure => simp [intOf]
                · have c2 : cW 1 = 13 := rfl
                  rw [c2] at d1 wq
                  have HD1 := hide d1
                  clear d1 d2 c2
                  go_wp2
                  have hD : RS w.heap.size g qb 3 rb D w _ E R := hrs.out.quiet ((Below.refl _ _).drew)
                  have wq2 := hD.ts.wt 1 hlt
                  have c2 : cW 1 = 13 := rfl
                  rw [c2] at wq2
                  refine wp_region_quiet (C := fun w' => RS w.heap.size g qb 3 rb D w w' E R) (by kernel_rfl) (by kernel_rfl) hD ?_
                  clear hD wq wq2
                  show wpQuiet _ _ _ _ (_ :: _) _
                  repeat (first
                    | (refine wpQuiet_step (fun K hK => ?_); rw [if_neg (Bool.eq_false_iff.1 (by rfl))]; refine hK _ ?_; clear hK K; try simp only [Act.put, List.setIfInBounds_toArray, List.set_cons_zero, List.set_cons_succ])
                    | (refine wpQuiet_step (fun K hK => ?_); rw [if_pos (by rfl)]; apply Exists.intro; refine ⟨fun w' hw' => ?_, hK _ ?_⟩; (· (have hq := hw'.ts.wt 1 hlt; rw [c2] at hq; have HW := hide hw'; clear hw'; go_simp; first | done | rfl | (refine (rdone_st HW.out).mono ?_; rintro e w11 ⟨rfl, x11⟩; rw [HD1.out]; exact ⟨rfl, x11⟩))); clear hK K; try simp only [Act.put, List.setIfInBounds_toArray, List.set_cons_zero, List.set_cons_succ]))
                  refine wpQuiet_nil ?_
                  intro w11 x11
                  have M11 := hide x11.ts
                  clear x11 c2
                  go_wp2
                  go_roundw
                  case rel => exact ⟨1 + 1, by omega, by go_num, M11.out⟩
                  case measure => simp [intOf]
                · have c2 : cW 2 = 12 := rfl
                  obtain rfl := d2 rfl
                  rw [c2] at d1 wq
                  have HD1 := hide d1
                  clear d1 d2 c2
                  go_wp2
                  have hD : RS w.heap.size g qb 3 rb D w _ E [] := hrs.out.quiet ((Below.refl _ _).drew)
                  have wq2 := hD.ts.wt 2 hlt
                  have c2 : cW 2 = 12 := rfl
                  rw [c2] at wq2
                  go_region_held3 (fun w' => w'.cell? ⟨qb, 2, none⟩ = some (.int .i64 12)) (first | assumption | (simp [go_sem, *]; done))
                    (first | (go_at_call 24; refine (rdone_st hD).mono ?_; rintro e w11 ⟨rfl, x11⟩; rw [HD1.out]; have g11 := x11.ts.wt 2 hlt; rw [c2] at g11) | (go_at_call 22; refine (rLeft_any _ _ _ [] x11.rd).mono ?_; rintro e wx ⟨rfl, hwx⟩; subst hwx))
                  have M11 := hide x11.ts
                  clear g11 x11 hD wq wq2 c2
                  go_wp2
                  go_roundw
                  case rel => exact ⟨2 + 1, by omega, by go_num, M11.out⟩
                  case measure => simp [intOf]
            · go_wp2
              go_ret
              exact ⟨rfl, hst.out.below⟩
    · go_wp2
      go_ret
      exact ⟨rfl, HQ.out⟩
end Go.Proofs.YtonoobjpafhogaaDoor
