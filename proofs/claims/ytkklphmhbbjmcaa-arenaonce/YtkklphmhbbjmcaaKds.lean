/-
  The statements' kids by its contract: whatever list it makes, it lies in memory. Condition: numbers of the machine's kind; lists no longer than a process can hold.
-/
import Derived.Test.YtkklphmhbbjmcaaWrp
import Derived.Deep.RegionWith
namespace Go.Proofs.Ytkklphmhbbjmcaa
open Go.RowKit Go.Lib Go.Maps

/-- A step, as it lies in memory. -/
structure OpZ where
  other : Bool
  near : Bool
  what : Int
  n : Int
  ka : Option Addr
  K : List Int
  kc : Nat
def opC (o : OpZ) : Array Value := #[.bool o.other, .bool o.near, .int .i64 o.what, .int .i64 o.n, .slice o.ka o.K.length o.kc]
structure OpOk (w : World) (o : OpZ) : Prop where
  fit : Fit o.n
  kfit : ∀ k ∈ o.K, Fit k
  at_ : ZAt w o.ka o.K
  few : o.K.length ≤ 17592186043904
theorem OpOk.below {w w' : World} {o : OpZ} (h : OpOk w o) (x : Below w.heap.size w w') : OpOk w' o := ⟨h.fit, h.kfit, h.at_.below x, h.few⟩
theorem cell_two {w : World} {b : Nat} {u v : Value} {t : TypeId} (h : w.heap[b]? = some (.cells #[u, v] t (0, 0))) : w.cell? ⟨b, 0, none⟩ = some u ∧ w.cell? ⟨b, 1, none⟩ = some v := ⟨by rw [cell_of_row _ _ 0 _ _ _ h]; rfl, by rw [cell_of_row _ _ 1 _ _ _ h]; rfl⟩
theorem cell_five {w : World} {b : Nat} {c0 c1 c2 c3 c4 : Value} {t : TypeId} (h : w.heap[b]? = some (.cells #[c0, c1, c2, c3, c4] t (0, 0))) : w.cell? ⟨b, 0, none⟩ = some c0 ∧ w.cell? ⟨b, 1, none⟩ = some c1 ∧ w.cell? ⟨b, 2, none⟩ = some c2 ∧ w.cell? ⟨b, 3, none⟩ = some c3 ∧ w.cell? ⟨b, 4, none⟩ = some c4 := ⟨by rw [cell_of_row _ _ 0 _ _ _ h]; rfl, by rw [cell_of_row _ _ 1 _ _ _ h]; rfl, by rw [cell_of_row _ _ 2 _ _ _ h]; rfl, by rw [cell_of_row _ _ 3 _ _ _ h]; rfl, by rw [cell_of_row _ _ 4 _ _ _ h]; rfl⟩
set_option maxRecDepth 100000 in
set_option maxHeartbeats 4000000 in
theorem kids_any {w : World} {a x : Nat} {S : List Int} {M : Int} {N : List Nd} {Q : Nat → Prop} (o : OpZ) (h : RA w x S M N Q) (ho : OpOk w o) :
    Calls Try.prog 33 #[.agg #[.pointer (some ⟨a, 0, none⟩), .pointer (some ⟨x, 0, none⟩)], .agg (opC o)] w fun e w' => (∃ ao c L, e = .returned (.slice ao L.length c) ∧ ZAt w' ao L ∧ L.length ≤ 17592186043904 ∧ ∀ b off, ao = some ⟨b, off, none⟩ → (o.ka = some ⟨b, off, none⟩ ∧ L = o.K) ∨ w.heap.size ≤ b) ∧ Below w.heap.size w w' := by
  obtain ⟨i3, hi3, hz30, hz31, hz32⟩ := info_parts Try.info3
  obtain ⟨other, near, what, n, ka, K, kc⟩ := o
  have hfit := ho.fit
  have hkfit := ho.kfit
  have hat := ho.at_
  have hfew := ho.few
  simp only at hfit hkfit hat hfew
  clear ho
  have hok := h.ok
  have hS0 := hok.sz.ge
  have hS1 := hok.sz.le
  have hN := hok.few
  have hN1 := hok.m1
  unfold opC
  simp only
  have y1 : Below w.heap.size w (w.alloc (.cells #[.pointer (some ⟨a, 0, none⟩), .pointer (some ⟨x, 0, none⟩)] 34)) := al (Below.refl _ _) _
  have b1 := heap_alloc_new w (.cells #[.pointer (some ⟨a, 0, none⟩), .pointer (some ⟨x, 0, none⟩)] 34)
  have y2 : Below (w.alloc (.cells #[.pointer (some ⟨a, 0, none⟩), .pointer (some ⟨x, 0, none⟩)] 34)).heap.size (w.alloc (.cells #[.pointer (some ⟨a, 0, none⟩), .pointer (some ⟨x, 0, none⟩)] 34)) ((w.alloc (.cells #[.pointer (some ⟨a, 0, none⟩), .pointer (some ⟨x, 0, none⟩)] 34)).alloc (.cells #[.bool other, .bool near, .int .i64 what, .int .i64 n, .slice ka K.length kc] 40)) := al (Below.refl _ _) _
  have b2 := heap_alloc_new (w.alloc (.cells #[.pointer (some ⟨a, 0, none⟩), .pointer (some ⟨x, 0, none⟩)] 34)) (.cells #[.bool other, .bool near, .int .i64 what, .int .i64 n, .slice ka K.length kc] 40)
  rw [show (w.alloc (.cells #[.pointer (some ⟨a, 0, none⟩), .pointer (some ⟨x, 0, none⟩)] 34)).heap.size = w.heap.size + 1 by simp] at b2
  have b1' := (y2.block w.heap.size (lt_of_block b1)).trans b1
  have Y2 := hide (bt y1 y2 (Nat.le_refl _))
  have B1 := hide b1'
  have B2 := hide b2
  clear y1 y2 b1 b2 b1'
  have HS := hide hok.sz
  have HR := hide (h.below Y2.out)
  have HA := hide (hat.below Y2.out)
  have HKF := hide hkfit
  clear h hat hkfit hok
  cases near
  · go_enter Try.func33, Try.ntmps33
    go_upto_region 1 with fail
    generalize (w.alloc (.cells #[.pointer (some ⟨a, 0, none⟩), .pointer (some ⟨x, 0, none⟩)] 34)).alloc (.cells #[.bool other, .bool false, .int .i64 what, .int .i64 n, .slice ka K.length kc] 40) = w2 at *
    obtain ⟨-, p1, -, -, p4⟩ := cell_five B2.out
    go_wp2
    go_ret
    exact ⟨⟨ka, kc, K, rfl, HA.out, hfew, fun b off e => .inl ⟨e, rfl⟩⟩, Y2.out⟩
  · go_enter Try.func33, Try.ntmps33
    go_upto_region 1 with fail
    generalize (w.alloc (.cells #[.pointer (some ⟨a, 0, none⟩), .pointer (some ⟨x, 0, none⟩)] 34)).alloc (.cells #[.bool other, .bool true, .int .i64 what, .int .i64 n, .slice ka K.length kc] 40) = w2 at *
    obtain ⟨sb, sc, s0, s1, s2, hxl⟩ := HR.out.fields
    have HZB := hide s2
    clear s1 s2
    have hw0 : w.heap.size < w2.heap.size := lt_of_block B1.out
    have hw1 : w.heap.size + 1 < w2.heap.size := lt_of_block B2.out
    -- what is read, in whatever world behind this one
    have HRD : Hid (∀ V, Below w2.heap.size w2 V → V.cell? ⟨w.heap.size, 1, none⟩ = some (.pointer (some ⟨x, 0, none⟩)) ∧ V.cell? ⟨w.heap.size + 1, 1, none⟩ = some (.bool true) ∧ V.cell? ⟨w.heap.size + 1, 3, none⟩ = some (.int .i64 n) ∧ V.cell? ⟨w.heap.size + 1, 4, none⟩ = some (.slice ka K.length kc) ∧ V.cell? ⟨x, 0, none⟩ = some (.slice (some ⟨sb, 0, none⟩) S.length sc)) := fun V y => by
      obtain ⟨-, a1⟩ := cell_two ((y.block _ hw0).trans B1.out)
      obtain ⟨-, p1, -, p3, p4⟩ := cell_five ((y.block _ hw1).trans B2.out)
      exact ⟨a1, p1, p3, p4, (y.cell (p := ⟨x, 0, none⟩) hxl).trans s0⟩
    clear s0
    obtain ⟨r1, r2, r3, r4, r5⟩ := HRD.out w2 (Below.refl _ _)
    have HPK : Hid (∀ V, Below w2.heap.size w2 V → Calls Try.prog 11 #[.int .i64 n, .int .i64 (S.length : Int)] V fun e w' => e = .returned (.int .i64 (pkZ n S.length : Nat)) ∧ Below w2.heap.size w2 w') := fun V y => (pick_any n S.length hfit (by omega) (by omega) V).mono fun e w' ⟨h1, h2⟩ => ⟨h1, by rw [h2]; exact y⟩
    have HDr : Hid (Below w2.heap.size w2 w2.drew) := (Below.refl _ _).drew
    have hpl := pkZ_lt n (n := S.length) (by omega)
    generalize pkZ n S.length = lv at *
    go_upto_region 4 with fail
    clear r1 r2 r3 r4 r5
    refine wp_region_quiet (C := fun w' => Below w2.heap.size w2 w') (by kernel_rfl) (by kernel_rfl) HDr.out ?_
    refine QW.out (l := _ :: _) ?_
    iterate 8 (refine QW.take (by rfl) ?_; apply Exists.intro; refine ⟨fun w' hw' => ?_, ?_⟩; (· (obtain ⟨g1, g2, g3, g4, g5⟩ := HRD.out w' hw'; go_simp; first | done | (first | done | rfl))); try simp only [Act.put, List.setIfInBounds_toArray, List.set_cons_zero, List.set_cons_succ])
    iterate 1 (refine QW.take (by rfl) ?_; apply Exists.intro; refine ⟨fun w' hw' => ?_, ?_⟩; (· (obtain ⟨g1, g2, g3, g4, g5⟩ := HRD.out w' hw'; go_simp; (refine (HPK.out w' hw').mono ?_; rintro e w3 ⟨rfl, x3⟩; exact ⟨rfl, x3⟩))); try simp only [Act.put, List.setIfInBounds_toArray, List.set_cons_zero, List.set_cons_succ])
    iterate 1 (refine QW.take (by rfl) ?_; apply Exists.intro; refine ⟨fun w' hw' => ?_, ?_⟩; (· (obtain ⟨g1, g2, g3, g4, g5⟩ := HRD.out w' hw'; go_simp; first | done | (first | done | rfl))); try simp only [Act.put, List.setIfInBounds_toArray, List.set_cons_zero, List.set_cons_succ])
    refine QW.nil ?_
    intro w3 x3
    have X3 := hide x3
    clear x3 HDr HPK
    have hs1 := HS.out.each _ (getD_mem hpl)
    obtain ⟨s, hs⟩ : ∃ s : Nat, S.getD lv 0 = s := ⟨(S.getD lv 0).toNat, by omega⟩
    have hs256 : s ≤ 256 := by omega
    have HSV := hide hs
    clear hs hs1
    have hlv' : (lv : Int) < (S.length : Int) := by omega
    obtain ⟨r1, r2, r3, r4, r5⟩ := HRD.out w3 X3.out
    go_upto_block 0 with fail
    clear r1 r2 r3 r4 r5
    go_wp2
    go_loopw [5, 7] (fun v y wr => ∃ (k : Nat) (L : List Int), k ≤ s ∧ L.length = k ∧ y = .int .i64 k ∧ Hid (wr.ownsRow w2.heap.size 3 1 v k (zC L)) ∧ Hid (Below w2.heap.size w2 wr) ∧ Hid (Below w.heap.size w wr)) (fun _ y _ => s - (RowKit.intOf y).toNat)
    case atStart => exact ⟨0, [], Nat.zero_le _, rfl, rfl, World.ownsRow_nil _ _ _ _, X3, bt Y2.out X3.out (Nat.le_refl _)⟩
    case round =>
      obtain ⟨k, L, hk, hL, rfl, O1, X4, Z4⟩ := hrel
      have HLL := hide hL
      clear hL
      obtain ⟨r1, r2, r3, r4, r5⟩ := HRD.out wr X4.out
      have d0 := (HZB.out.below X4.out).cell hpl
      rw [HSV.out] at d0
      obtain ⟨va, vc, hv, hvp⟩ := own_shape O1.out
      subst hv
      by_cases hlt : k < s
      · have hlt' : (k : Int) < (s : Int) := by omega
        go_upto_if 39 with fail
        go_cut [8] (fun v wx => ∃ c : Int, v = .int .i64 c ∧ Hid (Fit c) ∧ Hid (Below wr.heap.size wr wx))
        case first =>
          by_cases hK : 0 < K.length
          · have hK' : (0 : Int) < (K.length : Int) := by omega
            have hK0 : ¬ (K.length : Int) = 0 := by omega
            have hm : k % K.length < K.length := Nat.mod_lt _ hK
            obtain ⟨kb, ko, rfl, hkb, hkc⟩ := (HA.out.below X4.out).get hm
            have HFT := hide (HKF.out _ (getD_mem hm))
            generalize K.getD (k % K.length) 0 = c at *
            have hrem : (k : Int).tmod (K.length : Int) = ((k % K.length : Nat) : Int) := by rw [Int.tmod_eq_emod_of_nonneg (by omega)]; simp
            have hrem2 : (k : Int) % (K.length : Int) = ((k % K.length : Nat) : Int) := by simp
            have hm' : ((k % K.length : Nat) : Int) < (K.length : Int) := by omega
            have hm0 : (0 : Int) ≤ ((k % K.length : Nat) : Int) := by omega
            generalize k % K.length = j at *
            go_wp2
            go_quiet (fail)
            go_wp2
            go_meet
            exact ⟨c, rfl, HFT, below_drewN (Below.refl _ _) _⟩
          · have hK' : ¬ (0 : Int) < (K.length : Int) := by omega
            go_wp2
            go_meet
            exact ⟨0, rfl, by unfold Hid Fit; omega, Below.refl _ _⟩
        case rest =>
          obtain ⟨c, rfl, HFC, X5⟩ := hcut
          have X6 := hide (bt X4.out X5.out (Nat.le_refl _))
          have Z6 := hide (bt Z4.out X5.out (Nat.le_refl _))
          have O6 := hide (own_below O1.out X5.out)
          have R6 := hide (HR.out.below X6.out)
          clear r1 r2 r3 r4 r5 d0 X4 Z4 O1 X5
          obtain ⟨r1, r2, r3, r4, r5⟩ := HRD.out wc X6.out
          have HLN := hide R6.out.len
          have HLV := hide (fun f => R6.out.level f)
          have eN : IntKind.i64.wrap ((N.length : Int) + 3) = ((N.length + 3 : Nat) : Int) := by simp [IntKind.wrap, IntKind.bits, IntKind.signed]; omega
          have eN2 : IntKind.i64.wrap ((N.length : Int) + 2) = (N.length : Int) + 2 := by simp [IntKind.wrap, IntKind.bits, IntKind.signed]; omega
          have HPK := hide (pick_any c (N.length + 3) HFC.out (by omega) (by omega) wc)
          have hpf := pkZ_lt c (n := N.length + 3) (by omega)
          generalize pkZ c (N.length + 3) = f0 at *
          go_upto_block 2 with (first
            | (go_at_call 10; refine HLN.out.mono ?_; rintro e w7 ⟨rfl, hw7⟩; have hw8 := hw7.symm; clear hw7; subst hw8)
            | (go_at_call 11; refine HPK.out.mono ?_; rintro e w7 ⟨rfl, hw7⟩; have hw8 := hw7.symm; clear hw7; subst hw8))
          clear HPK
          go_cut [9] (fun v wx => ∃ f : Nat, v = .int .i64 (f : Int) ∧ f < N.length + 3 ∧ Hid (wx = wc))
          case first =>
            go_wp2
            go_loopw [9] (fun v wz => ∃ f : Nat, f < N.length + 3 ∧ v = .int .i64 (f : Int) ∧ Hid (wz = wc)) (fun v _ => (RowKit.intOf v).toNat)
            case atStart => exact ⟨f0, hpf, rfl, rfl⟩
            case round =>
              obtain ⟨f, hf, rfl, HW⟩ := hrel
              have hw := HW.out.symm
              clear HW
              subst hw
              by_cases h0 : 0 ≤ c
              · by_cases h1 : 1 < f
                · have h1' : (1 : Int) < (f : Int) := by omega
                  by_cases h2 : lvl S N (f : Int) ≤ (lv : Int)
                  · by_cases h3 : f < N.length + 2
                    · have h3' : (f : Int) < (N.length : Int) + 2 := by omega
                      have HL1 := hide (HLV.out (f : Int))
                      generalize lvl S N (f : Int) = ly at *
                      go_wp2_with (first
                        | (go_at_call 23; refine HL1.out.mono ?_; rintro e w7 ⟨rfl, hw7⟩; have hw8 := hw7.symm; clear hw7; subst hw8)
                        | (go_at_call 10; refine HLN.out.mono ?_; rintro e w7 ⟨rfl, hw7⟩; have hw8 := hw7.symm; clear hw7; subst hw8))
                      go_roundw
                      case rel => exact ⟨f - 1, by omega, by first | go_num | (congr 1; omega), by first | exact rfl | exact trivial⟩
                      case measure => simp [RowKit.intOf]; omega
                    · have h3' : ¬ (f : Int) < (N.length : Int) + 2 := by omega
                      have HL1 := hide (HLV.out (f : Int))
                      generalize lvl S N (f : Int) = ly at *
                      go_wp2_with (first
                        | (go_at_call 23; refine HL1.out.mono ?_; rintro e w7 ⟨rfl, hw7⟩; have hw8 := hw7.symm; clear hw7; subst hw8)
                        | (go_at_call 10; refine HLN.out.mono ?_; rintro e w7 ⟨rfl, hw7⟩; have hw8 := hw7.symm; clear hw7; subst hw8))
                      go_meet
                      exact ⟨f, rfl, hf, rfl⟩
                  · have HL1 := hide (HLV.out (f : Int))
                    generalize lvl S N (f : Int) = ly at *
                    go_wp2_with (first
                      | (go_at_call 23; refine HL1.out.mono ?_; rintro e w7 ⟨rfl, hw7⟩; have hw8 := hw7.symm; clear hw7; subst hw8)
                      | (go_at_call 10; refine HLN.out.mono ?_; rintro e w7 ⟨rfl, hw7⟩; have hw8 := hw7.symm; clear hw7; subst hw8))
                    go_meet
                    exact ⟨f, rfl, hf, rfl⟩
                · have h1' : ¬ (1 : Int) < (f : Int) := by omega
                  go_wp2
                  go_meet
                  exact ⟨f, rfl, hf, rfl⟩
              · go_wp2
                go_meet
                exact ⟨f, rfl, hf, rfl⟩
          case rest =>
            obtain ⟨f, rfl, hf, HW⟩ := hcut
            have hw := HW.out
            clear HW
            subst hw
            clear r1 r2 r3 r4 r5
            have y7 : Below wc.heap.size wc (wc.alloc (.cells #[.int .i64 (f : Int)] 3)) := al (Below.refl _ _) _
            have O7 := hide (own_below O6.out y7)
            have X7 := hide (bt X6.out y7 (Nat.le_refl _))
            have Z7 := hide (bt Z6.out y7 (Nat.le_refl _))
            have HLZ : Hid ((zC L).length = k) := by unfold Hid; rw [zC_length]; exact HLL.out
            clear y7
            go_wp2_with (at_builtin; refine wpList_append_view rfl (.tmp 79) (.tmp 81) 22 rfl w2.heap.size 3 i3 (.int .i64 0) 1 8 Try.underlying22 hi3 hz30 hz31 hz32 rfl (by decide) _ k (zC L) rfl O7.out ⟨wc.heap.size, 0, none⟩ 1 1 [.int .i64 (f : Int)] rfl rfl (one_new wc _ _) (by simp [Value.oneCell']) (by decide) (by unfold maxLen; omega) (by omega) X7.out.size ?_; intro v8 w8 h1 h2; obtain ⟨a8, c8, hv8, _⟩ := own_shape h1; subst hv8; have O8 := hide h1; have A8 := hide h2; clear h1 h2)
            have X8 := hide (app_below X7.out O7.out A8.out (Nat.le_refl _))
            have Z8 := hide (bt Y2.out X8.out (Nat.le_refl _))
            go_roundw
            case rel => exact ⟨k + 1, L ++ [(f : Int)], by omega, by rw [List.length_append, HLL.out]; rfl, by go_num, by unfold Hid; rw [zC_snoc]; exact O8.out, X8, Z8⟩
            case measure => simp [RowKit.intOf]; omega
      · have hlt' : ¬ (k : Int) < (s : Int) := by omega
        obtain rfl : k = s := by omega
        go_wp2
        go_ret
        have hl := HLL.out
        refine ⟨⟨va, vc, L, by rw [hl]; rfl, ?_, by omega, fun b off e => .inr (Nat.le_trans Y2.out.size (World.ownsRow.lt O1.out b (by rw [e]; rfl)).1)⟩, Z4.out⟩
        have o2 := O1.out
        by_cases h0 : 0 < L.length
        · rw [← hl] at o2
          obtain ⟨g, c, e, _, hzb⟩ := own_blk o2 h0
          injection e with e _ _
          subst e
          exact hzb.at
        · exact .inl (List.eq_nil_of_length_eq_zero (by omega))
end Go.Proofs.Ytkklphmhbbjmcaa
