/-
  LexSpread answers true. Conditions: texts no longer than a process can hold; the library's ErrRange reads as its text lays it.
-/
import Derived.Test.YtkpdbbbeagnjpaaGreatDoorP16
import Derived.Test.YtkpdbbbeagnjpaaGreatDoorP40
import Derived.Test.YtkpdbbbeagnjpaaGreatDoorP41
import Derived.Test.YtkpdbbbeagnjpaaGreatDoorP44
import Derived.Deep.DeepCutAuto
import Derived.Deep.CutBlock
namespace Go.Proofs.YtkpdbbbeagnjpaaGreatDoor
open Go.RowKit Go.Lib

theorem bytes_new (w : World) (cs : List Value) (j : Nat) (u : Value) (hu : cs[j]? = some u) : (w.alloc (.cells cs.toArray 5)).cell? ((⟨w.heap.size, 0, none⟩ : Addr).add j) = some u := by
  have hB := heap_alloc_new w (.cells cs.toArray 5)
  rw [show (⟨w.heap.size, 0, none⟩ : Addr).add j = ⟨w.heap.size, 0 + j, none⟩ by unfold Addr.add; split <;> simp_all, cell_of_row _ _ _ _ _ _ hB]
  simpa using hu
set_option maxHeartbeats 1000000 in
set_option maxRecDepth 100000 in
theorem lexSpread_any (s q name : By) (w : World) (hs : s.length ≤ 140737488351232) (hq : q.length ≤ 140737488351232) (hn : name.length ≤ 140737488351232) (hev : ErrV w.heap.size w) :
    Calls Tryz.prog 5 #[.string ⟨s.toArray⟩, .string ⟨q.toArray⟩, .string ⟨name.toArray⟩] w fun e w' => e = .returned (.bool true) ∧ Below w.heap.size w w' := by
  have hsz := bs_size s
  have hsq := bs_size q
  have hsn := bs_size name
  have a1 := addI_in (n := s.length) (m := s.length) (by omega) (by omega)
  have a2 := addI_in (n := q.length) (m := q.length) (by omega) (by omega)
  have a3 := addI_in (n := addI q.length q.length) (m := name.length) a2.1 (by omega)
  have HD1 := hide (fun W => add2_any s.length s.length W (by omega) (by omega) (by omega) (by omega))
  have HD2 := hide (fun W => add2_any q.length q.length W (by omega) (by omega) (by omega) (by omega))
  have HD3 := hide (fun W => add2_any (addI q.length q.length) name.length W a2.1 (by omega) (by omega) (by omega))
  have HD4 := hide (fun W => add2_any (addI s.length s.length) (addI (addI q.length q.length) name.length) W a1.1 (by omega) a3.1 (by omega))
  generalize addI s.length s.length = A1 at *
  generalize addI q.length q.length = A2 at *
  generalize addI A2 name.length = A3 at *
  generalize addI A1 A3 = A4 at *
  clear a1 a2 a3
  have HAW := hide (awake_any w)
  by_cases hA : 2147483647 < A4
  · go_enter Tryz.func5, Tryz.ntmps5
    go_wp2_with (first | (go_at_call 6; refine (HD1.out _).mono ?_; clear HD1; rintro e wz ⟨rfl, hwz⟩; have hwz := hwz.symm; subst hwz) | (go_at_call 6; refine (HD2.out _).mono ?_; clear HD2; rintro e wz ⟨rfl, hwz⟩; have hwz := hwz.symm; subst hwz) | (go_at_call 6; refine (HD3.out _).mono ?_; clear HD3; rintro e wz ⟨rfl, hwz⟩; have hwz := hwz.symm; subst hwz) | (go_at_call 6; refine (HD4.out _).mono ?_; rintro e wz ⟨rfl, hwz⟩; have hwz := hwz.symm; subst hwz))
    go_ret
    exact ⟨rfl, Below.refl _ _⟩
  · go_enter Tryz.func5, Tryz.ntmps5
    go_upto_region 4 with (first | (go_at_call 6; refine (HD1.out _).mono ?_; clear HD1; rintro e wz ⟨rfl, hwz⟩; have hwz := hwz.symm; subst hwz) | (go_at_call 6; refine (HD2.out _).mono ?_; clear HD2; rintro e wz ⟨rfl, hwz⟩; have hwz := hwz.symm; subst hwz) | (go_at_call 6; refine (HD3.out _).mono ?_; clear HD3; rintro e wz ⟨rfl, hwz⟩; have hwz := hwz.symm; subst hwz) | (go_at_call 6; refine (HD4.out _).mono ?_; rintro e wz ⟨rfl, hwz⟩; have hwz := hwz.symm; subst hwz) | (go_at_call 7; refine HAW.out.mono ?_; rintro e w1 ⟨rfl, x1⟩; have X1 := hide x1; clear x1))
    have HEV1 := hide (hev.grow X1.out)
    have HEV0 := hide hev
    clear HAW HD4 hev hA
    have HSC : Hid (Calls Tryz.prog 8 #[.string ⟨s.toArray⟩] w1 fun e w' => (∃ tv c n, e = .returned (.tuple #[tv, .int .i64 c, .int .i64 n]) ∧ ((∃ L, scanQ s = .ok L ∧ c = 0 ∧ w'.ownsRow w1.heap.size 40 6 tv L.length (tkC L)) ∨ c ≠ 0 ∧ tv = .slice none 0 0)) ∧ Below w1.heap.size w1 w') := by
      unfold Hid
      cases hsc : scanQ s with
      | ok L =>
        refine (scan_okc hsc w1 HEV1.out).mono ?_
        rintro e w' ⟨⟨tv, rfl, ho⟩, x⟩
        exact ⟨⟨tv, 0, 0, rfl, .inl ⟨L, rfl, rfl, ho⟩⟩, x⟩
      | error cn =>
        obtain ⟨c, n⟩ := cn
        refine (scan_errc hsc w1 HEV1.out).mono ?_
        rintro e w' ⟨rfl, x⟩
        exact ⟨⟨_, c, n, rfl, .inr ⟨scan_err_ne hsc, rfl⟩⟩, x⟩
    go_upto_region 5 with (go_at_call 8; refine HSC.out.mono ?_; rintro e w2 ⟨⟨tv, c, n, rfl, hc⟩, x2⟩; have X2 := hide (bt X1.out x2 (Nat.le_refl _)); have HC := hide hc; have HX2 := hide x2; clear x2 hc)
    have HEV2 := hide (HEV1.out.grow HX2.out)
    clear HSC HEV1 X1
    have htv : ∃ ao k cp, tv = .slice ao k cp := by
      rcases HC.out with ⟨L, _, _, ho⟩ | ⟨_, rfl⟩
      · obtain ⟨ao, cp, e, _⟩ := own_shape ho
        exact ⟨ao, _, cp, e⟩
      · exact ⟨_, _, _, rfl⟩
    obtain ⟨ao, k, cp, rfl⟩ := htv
    go_upto_if 48 with fail
    go_cut [11, 12, 13, 14, 15, 16] (fun _ _ _ _ _ _ wx => Hid (Below w.heap.size w wx))
    case first =>
      rcases HC.out with ⟨L, hsc, rfl, ho⟩ | ⟨hc, hnil⟩
      · clear HC
        obtain ⟨ao', cp', e, hg⟩ := own_shape ho
        injection e with e1 e2 e3
        subst e1 e2 e3
        obtain ⟨hL1, hL0⟩ := scan_len hsc
        obtain ⟨g, hg⟩ := hg (by omega)
        subst hg
        obtain ⟨hsp, hup, hbig⟩ := spread_scan hsc
        have hls := scan_ok_len hsc
        have HO := hide ho
        have HSP := hide hsp
        have HUP := hide hup
        have HBIG := hide hbig
        clear ho hsp hup hsc hbig hs
        have R0 := hide (RwB.nil w2 w2 (Below.refl _ _))
        obtain ⟨i5, hi5, hz50, hz51, hz52⟩ := info_parts Tryz.info5n
        go_wp2
        go_loopg [11, 12] (L.length + 1) (fun gh v x wr => ∃ (i : Nat) (l : By), x = .int .i64 (i : Nat) ∧ i < L.length ∧ Hid (RwB w2 wr v l) ∧ Hid (l ++ spr s i (L.drop i) = spr s 0 L) ∧ L.length - i < gh)
        case atStart => exact ⟨0, [], rfl, by omega, R0, by unfold Hid; rw [List.drop_zero]; rfl, by omega⟩
        case round =>
          clear R0
          obtain ⟨i, l, rfl, hi1, HR, HL, hgh⟩ := hrel
          have HG := hide hgh
          clear hgh
          obtain ⟨va, vc, hv, _⟩ := own_shape HR.out.own
          subst hv
          have f1 : IntKind.i64.wrap ((i : Int) + 1) = (i : Int) + 1 := by rw [show (i : Int) + 1 = ((i + 1 : Nat) : Int) by simp]; simp [IntKind.wrap, IntKind.bits, IntKind.signed]; omega
          have hll : l.length ≤ 1000000000 := by
            have h1 := congrArg List.length HL.out
            have h2 := HBIG.out
            rw [List.length_append] at h1
            omega
          by_cases hi : i + 1 < L.length
          · have hi' : (i : Int) + 1 < (L.length : Int) := by omega
            obtain ⟨u1, u2, u3⟩ := upT_get L 0 HUP.out i (by omega)
            obtain ⟨_, u5, _⟩ := upT_get L 0 HUP.out (i + 1) hi
            have u3 := u3 hi
            obtain ⟨ka, hka⟩ := Int.eq_ofNat_of_zero_le u1
            obtain ⟨kb, hkb⟩ := Int.eq_ofNat_of_zero_le (Int.le_trans u1 u3)
            have HSTP := hide (spr_step s L i hi)
            rw [hka, hkb] at u3 HSTP
            rw [hka] at u2
            rw [hkb] at u5
            have hab : (ka : Int) ≤ (kb : Int) := u3
            have hbs : (kb : Int) ≤ (s.length : Int) := u5
            rw [Int.toNat_natCast, Int.toNat_natCast] at HSTP
            have t1 : ((i : Int) + 1).toNat = i + 1 := by omega
            have t2 : (0 : Int) ≤ (i : Int) + 1 := by omega
            obtain ⟨S, HSE⟩ : ∃ S : World → Prop, Hid (∀ V, S V ↔ V.cell? ⟨g, i * 6 + 5, none⟩ = some (.int .i64 (ka : Int)) ∧ V.cell? ⟨g, (i + 1) * 6 + 5, none⟩ = some (.int .i64 (kb : Int))) := ⟨_, fun V => Iff.rfl⟩
            have HRD : Hid (∀ V, S V → V.cell? ⟨g, i * 6 + 5, none⟩ = some (.int .i64 (ka : Int)) ∧ V.cell? ⟨g, (i + 1) * 6 + 5, none⟩ = some (.int .i64 (kb : Int))) := fun V hV => (HSE.out V).1 hV
            have XD := hide (Below.drew HR.out.bel)
            have HS0 : Hid (S wr.drew) := (HSE.out _).2 (by
              have o2 := own_below HO.out XD.out
              have c1 := (tk_at o2 (i := i) (by omega) rfl).2.2.2.2.2
              have c2 := (tk_at o2 (i := i + 1) hi rfl).2.2.2.2.2
              rw [hka] at c1
              rw [hkb] at c2
              exact ⟨c1, c2⟩)
            clear HSE hka hkb u1 u2 u3 u5
            have hcut : (⟨s.toArray⟩ : ByteArray).extract ka kb = ⟨(cutB s ka kb).toArray⟩ := ext_cut s ka kb
            have hcl : (cutB s ka kb).length ≤ 8000 := by unfold cutB; simp; omega
            have HRW : Hid (wr.drew.ownsRow w2.heap.size 5 1 (.slice va l.length vc) l.length (Lib.byteCells l)) := own_below HR.out.own (Below.refl _ _).drew
            go_upto_region 10 with fail
            refine wp_unt (S := S) 14 (by kernel_rfl) ?_
            have HSZ : Hid (w2.heap.size ≤ wr.drew.heap.size) := XD.out.size
            have HXW : Hid (Below wr.heap.size wr wr.drew) := (Below.refl _ _).drew
            generalize wr.drew = wd at *
            refine UntH.take (i := 0) (some 56) rfl rfl (by kernel_rfl) (by kernel_rfl) (by kernel_rfl) (by kernel_rfl) (fun _ _ _ _ h => h) (by rfl) HS0.out ?_
            apply Exists.intro
            refine ⟨fun w' hw' => ?_, ?_⟩
            · obtain ⟨q1, q2⟩ := HRD.out w' hw'
              go_simp
              first | done | rfl
            try simp only [Act.put, List.setIfInBounds_toArray, List.set_cons_zero, List.set_cons_succ]
            refine UntH.take (i := 1) (some 57) rfl rfl (by kernel_rfl) (by kernel_rfl) (by kernel_rfl) (by kernel_rfl) (fun _ _ _ _ h => h) (by rfl) HS0.out ?_
            apply Exists.intro
            refine ⟨fun w' hw' => ?_, ?_⟩
            · obtain ⟨q1, q2⟩ := HRD.out w' hw'
              go_simp
              first | done | rfl
            try simp only [Act.put, List.setIfInBounds_toArray, List.set_cons_zero, List.set_cons_succ]
            refine UntH.take (i := 2) (some 58) rfl rfl (by kernel_rfl) (by kernel_rfl) (by kernel_rfl) (by kernel_rfl) (fun _ _ _ _ h => h) (by rfl) HS0.out ?_
            apply Exists.intro
            refine ⟨fun w' hw' => ?_, ?_⟩
            · obtain ⟨q1, q2⟩ := HRD.out w' hw'
              go_simp
              first | done | rfl
            try simp only [Act.put, List.setIfInBounds_toArray, List.set_cons_zero, List.set_cons_succ]
            refine UntH.take (i := 3) (some 59) rfl rfl (by kernel_rfl) (by kernel_rfl) (by kernel_rfl) (by kernel_rfl) (fun _ _ _ _ h => h) (by rfl) HS0.out ?_
            apply Exists.intro
            refine ⟨fun w' hw' => ?_, ?_⟩
            · obtain ⟨q1, q2⟩ := HRD.out w' hw'
              go_simp
              first | done | rfl
            try simp only [Act.put, List.setIfInBounds_toArray, List.set_cons_zero, List.set_cons_succ]
            refine UntH.take (i := 4) (some 60) rfl rfl (by kernel_rfl) (by kernel_rfl) (by kernel_rfl) (by kernel_rfl) (fun _ _ _ _ h => h) (by rfl) HS0.out ?_
            apply Exists.intro
            refine ⟨fun w' hw' => ?_, ?_⟩
            · obtain ⟨q1, q2⟩ := HRD.out w' hw'
              go_simp
              first | done | rfl
            try simp only [Act.put, List.setIfInBounds_toArray, List.set_cons_zero, List.set_cons_succ]
            refine UntH.take (i := 5) (some 61) rfl rfl (by kernel_rfl) (by kernel_rfl) (by kernel_rfl) (by kernel_rfl) (fun _ _ _ _ h => h) (by rfl) HS0.out ?_
            apply Exists.intro
            refine ⟨fun w' hw' => ?_, ?_⟩
            · obtain ⟨q1, q2⟩ := HRD.out w' hw'
              go_simp
              first | done | rfl
            try simp only [Act.put, List.setIfInBounds_toArray, List.set_cons_zero, List.set_cons_succ]
            refine UntH.take (i := 6) (some 62) rfl rfl (by kernel_rfl) (by kernel_rfl) (by kernel_rfl) (by kernel_rfl) (fun _ _ _ _ h => h) (by rfl) HS0.out ?_
            apply Exists.intro
            refine ⟨fun w' hw' => ?_, ?_⟩
            · obtain ⟨q1, q2⟩ := HRD.out w' hw'
              go_simp
              first | done | rfl
            try simp only [Act.put, List.setIfInBounds_toArray, List.set_cons_zero, List.set_cons_succ]
            refine UntH.take (i := 7) (some 63) rfl rfl (by kernel_rfl) (by kernel_rfl) (by kernel_rfl) (by kernel_rfl) (fun _ _ _ _ h => h) (by rfl) HS0.out ?_
            apply Exists.intro
            refine ⟨fun w' hw' => ?_, ?_⟩
            · obtain ⟨q1, q2⟩ := HRD.out w' hw'
              go_simp
              first | done | rfl
            try simp only [Act.put, List.setIfInBounds_toArray, List.set_cons_zero, List.set_cons_succ]
            refine UntH.take (i := 8) (some 64) rfl rfl (by kernel_rfl) (by kernel_rfl) (by kernel_rfl) (by kernel_rfl) (fun _ _ _ _ h => h) (by rfl) HS0.out ?_
            apply Exists.intro
            refine ⟨fun w' hw' => ?_, ?_⟩
            · obtain ⟨q1, q2⟩ := HRD.out w' hw'
              go_simp
              first | done | rfl
            try simp only [Act.put, List.setIfInBounds_toArray, List.set_cons_zero, List.set_cons_succ]
            refine UntH.take (i := 9) (some 65) rfl rfl (by kernel_rfl) (by kernel_rfl) (by kernel_rfl) (by kernel_rfl) (fun _ _ _ _ h => h) (by rfl) HS0.out ?_
            apply Exists.intro
            refine ⟨fun w' hw' => ?_, ?_⟩
            · obtain ⟨q1, q2⟩ := HRD.out w' hw'
              go_simp
              first | done | rfl
            try simp only [Act.put, List.setIfInBounds_toArray, List.set_cons_zero, List.set_cons_succ]
            refine UntH.take (i := 10) (some 66) rfl rfl (by kernel_rfl) (by kernel_rfl) (by kernel_rfl) (by kernel_rfl) (fun _ _ _ _ h => h) (by rfl) HS0.out ?_
            apply Exists.intro
            refine ⟨fun w' hw' => ?_, ?_⟩
            · obtain ⟨q1, q2⟩ := HRD.out w' hw'
              go_simp
              first | done | rfl
            try simp only [Act.put, List.setIfInBounds_toArray, List.set_cons_zero, List.set_cons_succ]
            refine UntH.take (i := 11) (some 67) rfl rfl (by kernel_rfl) (by kernel_rfl) (by kernel_rfl) (by kernel_rfl) (fun _ _ _ _ h => h) (by rfl) HS0.out ?_
            apply Exists.intro
            refine ⟨fun w' hw' => ?_, ?_⟩
            · obtain ⟨q1, q2⟩ := HRD.out w' hw'
              go_simp
              first | done | rfl
            try simp only [Act.put, List.setIfInBounds_toArray, List.set_cons_zero, List.set_cons_succ]
            refine UntH.take (i := 12) (some 68) rfl rfl (by kernel_rfl) (by kernel_rfl) (by kernel_rfl) (by kernel_rfl) (fun _ _ _ _ h => h) (by rfl) HS0.out ?_
            apply Exists.intro
            refine ⟨fun w' hw' => ?_, ?_⟩
            · obtain ⟨q1, q2⟩ := HRD.out w' hw'
              go_simp
              first | done | rfl
            try simp only [Act.put, List.setIfInBounds_toArray, List.set_cons_zero, List.set_cons_succ]
            refine UntH.take (i := 13) (some 69) rfl rfl (by kernel_rfl) (by kernel_rfl) (by kernel_rfl) (by kernel_rfl) (fun _ _ _ _ h => h) (by rfl) HS0.out ?_
            refine Exists.intro (.string ((⟨s.toArray⟩ : ByteArray).extract ka kb)) ?_
            refine ⟨fun w' hw' => ?_, ?_⟩
            · obtain ⟨q1, q2⟩ := HRD.out w' hw'
              go_simp
              first | done | rfl
            try simp only [Act.put, List.setIfInBounds_toArray, List.set_cons_zero, List.set_cons_succ]
            refine UntH.stepf (i := 14) (by kernel_rfl) rfl (by kernel_rfl) (fun K hK => ?_)
            refine step_append_string (by rfl) (.tmp 56) (.tmp 69) 36 9 (by rfl) w2.heap.size 5 i5 Tryz.underlying36 Tryz.underlying9 hi5 hz50 hz51 hz52 _ l.length (Lib.byteCells l) (by rfl) HRW.out ((⟨s.toArray⟩ : ByteArray).extract ka kb) (by rfl) (by rw [hcut, bs_size]; unfold maxLen; omega) (by rw [hcut, bs_size]; omega) HSZ.out ?_
            intro v6 w6 h1 h2
            rw [hcut, str_cells, bs_size] at h1
            have R6 := hide (HR.out.grown HXW.out h1 h2)
            refine hK _ _ ?_
            clear hK K h1 h2
            have HNX : Hid ((l ++ cutB s ka kb ++ sepB i) ++ spr s (i + 1) (L.drop (i + 1)) = spr s 0 L) := by
              unfold Hid
              rw [← HL.out, HSTP.out]
              simp [List.append_assoc]
            have hl6 : (l ++ cutB s ka kb).length ≤ 1000008000 := by rw [List.length_append]; omega
            clear HRW HSZ HXW HS0 HRD XD HL HSTP hcut hcl hll
            generalize l ++ cutB s ka kb = l6 at *
            clear HR
            obtain ⟨va6, vc6, e6, _⟩ := own_shape R6.out.own
            subst e6
            refine UntH.stepf (i := 15) (by kernel_rfl) rfl (by kernel_rfl) (fun K hK => ?_)
            go_simp
            refine hK _ _ ?_
            clear hK K
            refine UntH.end (by kernel_rfl) ?_
            rcases Nat.mod_two_eq_zero_or_one i with hp | hp
            · have hp1 : (i : Int).tmod 2 = 0 := by rw [Int.tmod_eq_emod_of_nonneg (by omega)]; omega
              have hsep : sepB i = [10] := by unfold sepB; rw [if_pos (by omega)]
              rw [hsep] at HNX
              have xa := al (Below.refl w6.heap.size w6) (.cells #[.int .u8 10] 5)
              have P1 : Hid ((w6.alloc (.cells #[.int .u8 10] 5)).ownsRow w2.heap.size 5 1 (.slice va6 l6.length vc6) l6.length (Lib.byteCells l6)) := own_below R6.out.own xa
              have P2 : Hid (∀ (j : Nat) (u : Value), [Value.int .u8 10][j]? = some u → (w6.alloc (.cells #[.int .u8 10] 5)).cell? ((⟨w6.heap.size, 0, none⟩ : Addr).add j) = some u) := bytes_new w6 [.int .u8 10]
              have P3 : Hid (w2.heap.size ≤ (w6.alloc (.cells #[.int .u8 10] 5)).heap.size) := (bt R6.out.bel xa (Nat.le_refl _)).size
              have P4 : Hid (∀ v' w', w'.ownsRow w2.heap.size 5 1 v' (l6.length + 1) (Lib.byteCells l6 ++ [.int .u8 10]) → AppAt (w6.alloc (.cells #[.int .u8 10] 5)) w' (.slice va6 l6.length vc6) v' → RwB w2 w' v' (l6 ++ [10])) := fun v' w' q1 q2 => R6.out.appL xa (u := [10]) q1 q2
              clear xa hsep
              go_wp2_with (at_builtin; refine wpList_append_view rfl (.tmp 74) (.tmp 75) 36 rfl w2.heap.size 5 i5 (.int .u8 0) 1 1 Tryz.underlying36 hi5 hz50 hz51 hz52 rfl (by decide) _ l6.length _ rfl P1.out ⟨w6.heap.size, 0, none⟩ 1 1 [.int .u8 10] rfl rfl P2.out (by simp [Value.oneCell']) (by decide) (by unfold maxLen; omega) (by omega) P3.out ?_; intro v7 w7 q1 q2; have R7 := hide (P4.out v7 w7 q1 q2); clear q1 q2)
              go_roundg (L.length - (i + 1) + 1)
              case measure => have := HG.out; omega
              case rel => exact ⟨i + 1, _, by first | rfl | go_num | (congr 1; omega), hi, R7, HNX, by omega⟩
            · have hp1 : (i : Int).tmod 2 = 1 := by rw [Int.tmod_eq_emod_of_nonneg (by omega)]; omega
              have hsep : sepB i = [10, 32] := by unfold sepB; rw [if_neg (by omega)]
              rw [hsep] at HNX
              have xa := al (Below.refl w6.heap.size w6) (.cells #[.int .u8 10, .int .u8 32] 5)
              have P1 : Hid ((w6.alloc (.cells #[.int .u8 10, .int .u8 32] 5)).ownsRow w2.heap.size 5 1 (.slice va6 l6.length vc6) l6.length (Lib.byteCells l6)) := own_below R6.out.own xa
              have P2 : Hid (∀ (j : Nat) (u : Value), [Value.int .u8 10, Value.int .u8 32][j]? = some u → (w6.alloc (.cells #[.int .u8 10, .int .u8 32] 5)).cell? ((⟨w6.heap.size, 0, none⟩ : Addr).add j) = some u) := bytes_new w6 [.int .u8 10, .int .u8 32]
              have P3 : Hid (w2.heap.size ≤ (w6.alloc (.cells #[.int .u8 10, .int .u8 32] 5)).heap.size) := (bt R6.out.bel xa (Nat.le_refl _)).size
              have P4 : Hid (∀ v' w', w'.ownsRow w2.heap.size 5 1 v' (l6.length + 2) (Lib.byteCells l6 ++ [.int .u8 10, .int .u8 32]) → AppAt (w6.alloc (.cells #[.int .u8 10, .int .u8 32] 5)) w' (.slice va6 l6.length vc6) v' → RwB w2 w' v' (l6 ++ [10, 32])) := fun v' w' q1 q2 => R6.out.appL xa (u := [10, 32]) q1 q2
              clear xa hsep
              go_wp2_with (at_builtin; refine wpList_append_view rfl (.tmp 77) (.tmp 78) 36 rfl w2.heap.size 5 i5 (.int .u8 0) 1 1 Tryz.underlying36 hi5 hz50 hz51 hz52 rfl (by decide) _ l6.length _ rfl P1.out ⟨w6.heap.size, 0, none⟩ 2 2 [.int .u8 10, .int .u8 32] rfl rfl P2.out (by simp [Value.oneCell']) (by decide) (by unfold maxLen; omega) (by omega) P3.out ?_; intro v7 w7 q1 q2; have R7 := hide (P4.out v7 w7 q1 q2); clear q1 q2)
              go_roundg (L.length - (i + 1) + 1)
              case measure => have := HG.out; omega
              case rel => exact ⟨i + 1, _, by first | rfl | go_num | (congr 1; omega), hi, R7, HNX, by omega⟩
          · have hi' : ¬ (i : Int) + 1 < (L.length : Int) := by omega
            have HLE : Hid (l = spr s 0 L) := by
              have := HL.out
              rw [spr_stop s L i (by omega), List.append_nil] at this
              exact this
            have hcv := HR.out.conv
            have HEV3 := hide (HEV2.out.grow HR.out.bel)
            have HOR := hide (own_below HO.out HR.out.bel)
            have X3 := hide (X2.out.trans (HR.out.bel.mono X2.out.size))
            by_cases h8 : l.length ≤ 8000
            · have h8' : (l.length : Int) ≤ 8000 := by omega
              obtain ⟨M, hM1, hM2⟩ := HSP.out (by rw [← HLE.out]; exact h8)
              rw [← HLE.out] at hM1
              have HSM := hide (scan_okc hM1 wr HEV3.out)
              have hLM : L.length = M.length := by have := congrArg List.length hM2; simpa using this
              have HAL : Hid (∀ (W : World) (vb : Value), Below wr.heap.size wr W → W.ownsRow wr.heap.size 40 6 vb M.length (tkC M) → Calls Tryz.prog 18 #[.slice (some ⟨g, 0, none⟩) L.length cp, vb] W fun e w' => e = .returned (.bool true) ∧ Below W.heap.size W w') := fun W vb y o => by
                have := alike_any L M _ vb _ _ W (own_below HOR.out y) o (by omega) (fun _ => hM2)
                rw [decide_eq_true hLM] at this
                exact this
              clear hM1 hM2 hLM HSP HUP HBIG HL HLE hll HO HOR
              go_wp2_with (first | (go_at_call 8; refine HSM.out.mono ?_; rintro e w4 ⟨⟨tv4, rfl, ho4⟩, x4⟩; have HO4 := hide ho4; have X4 := hide x4; clear ho4 x4) | (go_at_call 18; refine (HAL.out _ _ X4.out HO4.out).mono ?_; rintro e w5 ⟨rfl, x5⟩; have X5 := hide x5; clear x5))
              go_meet
              exact bt X3.out (bt X4.out X5.out (Nat.le_refl _)) (Nat.le_refl _)
            · have h8' : ¬ (l.length : Int) ≤ 8000 := by omega
              have h8b : (8000 : Int) < (l.length : Int) := by omega
              have HSM := hide (scan_errc (scan_long (s := l) (by omega)) wr HEV3.out)
              have HAL : Hid (∀ (W : World), Below wr.heap.size wr W → Calls Tryz.prog 18 #[.slice (some ⟨g, 0, none⟩) L.length cp, .slice none 0 0] W fun e w' => e = .returned (.bool false) ∧ Below W.heap.size W w') := fun W y => by
                have := alike_any L [] _ _ _ W.heap.size W (own_below HOR.out y) (World.ownsRow_nil _ _ _ _) (by omega) (fun h => by rw [List.length_nil] at h; omega)
                rw [decide_eq_false (by simp; intro h; rw [h] at hi1; simp at hi1)] at this
                exact this
              clear HSP HUP HBIG HL HLE hll HO HOR
              go_wp2_with (first | (go_at_call 8; refine HSM.out.mono ?_; rintro e w4 ⟨rfl, x4⟩; have X4 := hide x4; clear x4) | (go_at_call 18; refine (HAL.out _ X4.out).mono ?_; rintro e w5 ⟨rfl, x5⟩; have X5 := hide x5; clear x5))
              go_meet
              exact bt X3.out (bt X4.out X5.out (Nat.le_refl _)) (Nat.le_refl _)
      · injection hnil with e1 e2 e3
        subst e1 e2 e3
        have bc : (c == 0) = false := by simp [hc]
        clear HC hc
        go_wp2
        go_meet
        exact X2
    case rest =>
      have X3 := hcut
      have HEV3 := hide (HEV0.out.grow X3.out)
      clear hcut HC HEV2 X2 HX2
      have HQ := hide (quote_any q wc hq)
      obtain ⟨gq, tq, hqp⟩ : ∃ gq tq, quoP q = (gq, tq) := ⟨_, _, rfl⟩
      rw [hqp] at HQ
      have HQP := hide hqp
      clear hqp
      go_upto_region 21 with (go_at_call 12; refine HQ.out.mono ?_; rintro e w4 ⟨rfl, x4⟩; have X4 := hide (bt X3.out x4 (Nat.le_refl _)); have HX4 := hide x4; clear x4)
      have HEV4 := hide (HEV3.out.grow HX4.out)
      clear HQ HEV3 X3 HX4
      have htz := bs_size tq
      have HSC : Hid (Calls Tryz.prog 8 #[.string ⟨tq.toArray⟩] w4 fun e w' => (∃ ao k cp c n, e = .returned (.tuple #[.slice ao k cp, .int .i64 c, .int .i64 n]) ∧ (gq = 0 → c = 0 ∧ k = 2 ∧ ∃ g, ao = some ⟨g, 0, none⟩ ∧ w'.cell? ⟨g, 0, none⟩ = some (.int .i64 6) ∧ w'.cell? ⟨g, 1, none⟩ = some (.string ⟨q.toArray⟩) ∧ w'.cell? ⟨g, 2, none⟩ = some (.int .i64 0) ∧ w'.cell? ⟨g, 3, none⟩ = some (.int .i64 0) ∧ w'.cell? ⟨g, 4, none⟩ = some (.int .i64 0) ∧ w'.cell? ⟨g, 5, none⟩ = some (.int .i64 0) ∧ w'.cell? ⟨g, 11, none⟩ = some (.int .i64 (tq.length : Int)))) ∧ Below w4.heap.size w4 w') := by
        unfold Hid
        by_cases hg : gq = 0
        · have := HQP.out
          rw [hg] at this
          refine (scan_okc (scan_quote this) w4 HEV4.out).mono ?_
          rintro e w' ⟨⟨tv, rfl, ho⟩, x⟩
          obtain ⟨ao, cp, e1, hgg⟩ := own_shape ho
          obtain ⟨g, e2⟩ := hgg (by simp)
          subst e1 e2
          obtain ⟨c0, c1, c2, c3, c4, c5⟩ := tk_at ho (i := 0) (by simp) rfl
          have d5 := (tk_at ho (i := 1) (by simp) rfl).2.2.2.2.2
          exact ⟨⟨_, _, _, _, _, rfl, fun _ => ⟨rfl, rfl, g, rfl, c0, c1, c2, c3, c4, c5, d5⟩⟩, x⟩
        · cases hsc : scanQ tq with
          | ok L =>
            refine (scan_okc hsc w4 HEV4.out).mono ?_
            rintro e w' ⟨⟨tv, rfl, ho⟩, x⟩
            obtain ⟨ao, cp, e1, hgg⟩ := own_shape ho
            subst e1
            exact ⟨⟨_, _, _, _, _, rfl, fun h => absurd h hg⟩, x⟩
          | error cn =>
            obtain ⟨c, n⟩ := cn
            refine (scan_errc hsc w4 HEV4.out).mono ?_
            rintro e w' ⟨rfl, x⟩
            exact ⟨⟨_, _, _, _, _, rfl, fun h => absurd h hg⟩, x⟩
      go_upto_region 22 with (go_at_call 8; refine HSC.out.mono ?_; rintro e w5 ⟨⟨aq, kq, cq, c5, n5, rfl, hf⟩, x5⟩; have X5 := hide (bt X4.out x5 (Nat.le_refl _)); have HX5 := hide x5; have HF := hide hf; clear x5 hf)
      have HEV5 := hide (HEV4.out.grow HX5.out)
      clear HSC HEV4 X4 HX5 HQP
      go_cut [146] (fun sx wx => sx = .bool false ∧ wx = w5)
      case first =>
        clear HEV5 HEV0
        by_cases hg : gq = 0
        · obtain ⟨rfl, rfl, g, rfl, c0, c1, c2, c3, c4, c5, d5⟩ := HF.out hg
          subst hg
          have hE : ∀ W, (Op.equalIn 10000 40 (.agg #[.int .i64 6, .string ⟨q.toArray⟩, .int .i64 0, .int .i64 0, .int .i64 0, .int .i64 0]) (.agg #[.int .i64 6, .string ⟨q.toArray⟩, .int .i64 0, .int .i64 0, .int .i64 0, .int .i64 0])).run Tryz.prog W = .ok true W := fun W => eq40 ⟨6, q, 0, 0, 0, 0⟩ W
          clear HF
          go_wp2
          go_meet
          exact ⟨rfl, rfl⟩
        · have bg : (gq == 0) = false := by simp [hg]
          clear HF
          go_wp2
          go_meet
          exact ⟨rfl, rfl⟩
      case rest =>
        obtain ⟨hsx, hwx⟩ := hcut
        subst hsx
        have hwx := hwx.symm
        subst hwx
        clear HF
        have HW := hide (fun W => isWord_any name W)
        have HN := hide (fun W => isName_any name W hn)
        have HNW : Hid (nmB name = true → wdB name = false) := fun h => by
          unfold nmB at h
          simp only [Bool.and_eq_true] at h
          simpa using h.1.1.2
        have HNF : Hid (nmB name = true → fsB name = true ∧ allGo 2 name = true ∧ name.length ≤ 32) := fun h => by
          unfold nmB at h
          simp only [Bool.and_eq_true, decide_eq_true_eq] at h
          exact ⟨h.1.2, h.2, h.1.1.1⟩
        have HWF : Hid (wdB name = true → fsB name = true ∧ allGo 2 name = true ∧ name.length ≤ 32) := fun h => word_form h
        go_upto_region 26 with (first | (go_at_call 14; refine (HW.out _).mono ?_; rintro e wz ⟨rfl, hwz⟩; have hwz := hwz.symm; subst hwz) | (go_at_call 16; refine (HN.out _).mono ?_; rintro e w6 ⟨rfl, x6⟩; have X6 := hide x6; clear x6))
        have HEV6 := hide (HEV5.out.grow X6.out)
        have X7 := hide (bt X5.out X6.out (Nat.le_refl _))
        clear HW HN HEV5 X6 X5 HEV0
        have key : ∀ (kd : Int), scanQ name = .ok [⟨kd, name, 0, 0, 0, 0⟩, ⟨8, [], 0, 0, 0, name.length⟩] → Calls Tryz.prog 8 #[.string ⟨name.toArray⟩] w6 fun e w' => (∃ g cp, e = .returned (.tuple #[.slice (some ⟨g, 0, none⟩) 2 cp, .int .i64 0, .int .i64 0]) ∧ w'.cell? ⟨g, 0, none⟩ = some (.int .i64 kd) ∧ w'.cell? ⟨g, 1, none⟩ = some (.string ⟨name.toArray⟩) ∧ w'.cell? ⟨g, 5, none⟩ = some (.int .i64 0) ∧ w'.cell? ⟨g, 11, none⟩ = some (.int .i64 (name.length : Int))) ∧ Below w6.heap.size w6 w' := fun kd h => by
          refine (scan_okc h w6 HEV6.out).mono ?_
          rintro e w' ⟨⟨tv, rfl, ho⟩, x⟩
          obtain ⟨ao, cp, e1, hgg⟩ := own_shape ho
          obtain ⟨g, e2⟩ := hgg (by simp)
          subst e1 e2
          obtain ⟨c0, c1, _, _, _, c5⟩ := tk_at ho (i := 0) (by simp) rfl
          have d5 := (tk_at ho (i := 1) (by simp) rfl).2.2.2.2.2
          exact ⟨⟨_, _, rfl, c0, c1, c5, d5⟩, x⟩
        have HKEY := hide key
        clear key
        cases hw : wdB name with
        | true =>
          have hnm : nmB name = false := by
            cases h : nmB name with
            | false => rfl
            | true => rw [HNW.out h] at hw; cases hw
          rw [hnm]
          obtain ⟨g1, g2, g3⟩ := HWF.out hw
          have HS := scan_name g1 g2 g3
          rw [hw, if_pos rfl] at HS
          have HSC := hide (HKEY.out 1 HS)
          clear HS g1 g2 g3 HKEY HNW HNF HWF hw hnm
          go_wp2_with (go_at_call 8; refine HSC.out.mono ?_; rintro e w7 ⟨⟨g, cp, rfl, c0, c1, c5, d5⟩, x7⟩; have X8 := hide x7; clear x7)
          go_ret
          exact ⟨rfl, bt X7.out X8.out (Nat.le_refl _)⟩
        | false =>
          cases hnm : nmB name with
          | true =>
            obtain ⟨g1, g2, g3⟩ := HNF.out hnm
            have HS := scan_name g1 g2 g3
            rw [hw, if_neg (by decide)] at HS
            have HSC := hide (HKEY.out 2 HS)
            clear HS g1 g2 g3 HKEY HNW HNF HWF hw hnm
            go_wp2_with (go_at_call 8; refine HSC.out.mono ?_; rintro e w7 ⟨⟨g, cp, rfl, c0, c1, c5, d5⟩, x7⟩; have X8 := hide x7; clear x7)
            go_ret
            exact ⟨rfl, bt X7.out X8.out (Nat.le_refl _)⟩
          | false =>
            clear HKEY HNW HNF HWF
            cases hsc : scanQ name with
            | error cn =>
              obtain ⟨c7, n7⟩ := cn
              have hc := scan_err_ne hsc
              have bc : (c7 == 0) = false := by simp [hc]
              have HSC := hide (scan_errc hsc w6 HEV6.out)
              clear hsc hc
              go_wp2_with (go_at_call 8; refine HSC.out.mono ?_; rintro e w7 ⟨rfl, x7⟩; have X8 := hide x7; clear x7)
              go_ret
              exact ⟨rfl, bt X7.out X8.out (Nat.le_refl _)⟩
            | ok L =>
              have HSC := hide (scan_okc hsc w6 HEV6.out)
              by_cases hL : L.length = 2
              · obtain ⟨a, b, rfl⟩ : ∃ a b, L = [a, b] := by
                  match L, hL with
                  | [a, b], _ => exact ⟨a, b, rfl⟩
                have hNS : a.t = name → a.p = 0 → a.k ≠ 1 ∧ a.k ≠ 2 := fun h1 h2 => by
                  obtain ⟨n1, n2⟩ := name_scan hsc h1 h2
                  refine ⟨fun h => ?_, fun h => ?_⟩
                  · rw [n1 h] at hw
                    cases hw
                  · rw [n2 h] at hnm
                    cases hnm
                have HCC : Hid (Calls Tryz.prog 8 #[.string ⟨name.toArray⟩] w6 fun e w' => (∃ g cp, e = .returned (.tuple #[.slice (some ⟨g, 0, none⟩) 2 cp, .int .i64 0, .int .i64 0]) ∧ w'.cell? ⟨g, 0, none⟩ = some (.int .i64 a.k) ∧ w'.cell? ⟨g, 1, none⟩ = some (.string ⟨a.t.toArray⟩) ∧ w'.cell? ⟨g, 5, none⟩ = some (.int .i64 a.p) ∧ w'.cell? ⟨g, 11, none⟩ = some (.int .i64 b.p)) ∧ Below w6.heap.size w6 w') := by
                  refine HSC.out.mono ?_
                  rintro e w' ⟨⟨tv, rfl, ho⟩, x⟩
                  obtain ⟨ao, cp, e1, hgg⟩ := own_shape ho
                  obtain ⟨g, e2⟩ := hgg (by simp)
                  subst e1 e2
                  obtain ⟨c0, c1, _, _, _, c5⟩ := tk_at ho (i := 0) (by simp) rfl
                  have d5 := (tk_at ho (i := 1) (by simp) rfl).2.2.2.2.2
                  exact ⟨⟨_, _, rfl, c0, c1, c5, d5⟩, x⟩
                clear HSC hsc hL hw hnm
                by_cases ht : a.t = name
                · subst ht
                  by_cases hp : a.p = 0
                  · obtain ⟨hk1, hk2⟩ := hNS rfl hp
                    have bp : (a.p == 0) = true := by simp [hp]
                    have bk1 : (a.k == 1) = false := by simp [hk1]
                    have bk2 : (a.k == 2) = false := by simp [hk2]
                    clear hNS
                    by_cases hq : b.p = (a.t.length : Int)
                    · have bq : (b.p == (a.t.length : Int)) = true := by simp [hq]
                      go_wp2_with (go_at_call 8; refine HCC.out.mono ?_; rintro e w7 ⟨⟨g, cp, rfl, c0, c1, c5, d5⟩, x7⟩; have X8 := hide x7; clear x7)
                      go_ret
                      exact ⟨rfl, bt X7.out X8.out (Nat.le_refl _)⟩
                    · have bq : (b.p == (a.t.length : Int)) = false := by simp [hq]
                      go_wp2_with (go_at_call 8; refine HCC.out.mono ?_; rintro e w7 ⟨⟨g, cp, rfl, c0, c1, c5, d5⟩, x7⟩; have X8 := hide x7; clear x7)
                      go_ret
                      exact ⟨rfl, bt X7.out X8.out (Nat.le_refl _)⟩
                  · have bp : (a.p == 0) = false := by simp [hp]
                    clear hNS
                    go_wp2_with (go_at_call 8; refine HCC.out.mono ?_; rintro e w7 ⟨⟨g, cp, rfl, c0, c1, c5, d5⟩, x7⟩; have X8 := hide x7; clear x7)
                    go_ret
                    exact ⟨rfl, bt X7.out X8.out (Nat.le_refl _)⟩
                · have hb1 : ¬ (⟨a.t.toArray⟩ : ByteArray) = ⟨name.toArray⟩ := fun h => ht (by injection h with h; exact List.toArray_inj h)
                  have hb3 : ((⟨a.t.toArray⟩ : ByteArray).toList == (⟨name.toArray⟩ : ByteArray).toList) = false := by rw [ByteArray.toList_eq, ByteArray.toList_eq]; simpa using ht
                  have hb2 : ((⟨a.t.toArray⟩ : ByteArray) == ⟨name.toArray⟩) = false := by rw [beq_toListBytes]; exact hb3
                  clear hNS
                  go_wp2_with (go_at_call 8; refine HCC.out.mono ?_; rintro e w7 ⟨⟨g, cp, rfl, c0, c1, c5, d5⟩, x7⟩; have X8 := hide x7; clear x7)
                  go_ret
                  exact ⟨rfl, bt X7.out X8.out (Nat.le_refl _)⟩
              · have hL' : ¬ (L.length : Int) = 2 := by omega
                have bL : ((L.length : Int) == 2) = false := by simp [hL']
                clear hsc
                go_wp2_with (go_at_call 8; refine HSC.out.mono ?_; rintro e w7 ⟨⟨tv, rfl, ho⟩, x7⟩; obtain ⟨ao7, cp7, e7, -⟩ := own_shape ho; subst e7; have X8 := hide x7; clear x7 ho)
                go_ret
                exact ⟨rfl, bt X7.out X8.out (Nat.le_refl _)⟩
end Go.Proofs.YtkpdbbbeagnjpaaGreatDoor
