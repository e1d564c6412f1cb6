/-
  AddrLeast, walked: whatever it is given, it answers true; nothing that was there has turned. Conditions: the library's table of powers of ten reads as its text lays it; the list takes no more than a process can hold.
-/
import Derived.Test.YtfjifedfenpbbaaDoorMLeast
import Derived.Test.YtfjifedfenpbbaaDoorMake
import Derived.Test.YtfjifedfenpbbaaDoorBack
import Derived.Deep.RegionHeld3
namespace Go.Proofs.YtfjifedfenpbbaaDoor
open Go.RowKit Go.Lib

theorem make_yes (ao : Option Addr) (cap : Nat) (L : List Spn) (w : World) (hl : L.length ≤ 4294967296) (hat : SpAt w ao L) (hall : ∀ s ∈ L, Bnd s) :
    Calls Tryd.prog 24 #[.slice ao L.length cap] w fun e w' => (∃ v' M, e = .returned (.tuple #[v', .int .i64 0]) ∧ OwnT 36 w' w.heap.size v' M ∧ IsSet M ∧ (∀ n, memB n M = memB n L) ∧ M.length ≤ L.length) ∧ Below w.heap.size w w' :=
  (make_any ao cap L w hl hat).mono fun e w' ⟨x, h⟩ => by
    rcases h with ⟨_, v', M, h1, h2, h3, h4, h5⟩ | ⟨h, _⟩
    · exact ⟨⟨v', M, h1, h2, h3, h4, h5⟩, x⟩
    · exact absurd hall h
theorem make_no (ao : Option Addr) (cap : Nat) (L : List Spn) (w : World) (hl : L.length ≤ 4294967296) (hat : SpAt w ao L) (hall : ¬ ∀ s ∈ L, Bnd s) :
    Calls Tryd.prog 24 #[.slice ao L.length cap] w fun e w' => e = .returned (.tuple #[.slice none 0 0, .int .i64 20]) ∧ Below w.heap.size w w' :=
  (make_any ao cap L w hl hat).mono fun e w' ⟨x, h⟩ => by
    rcases h with ⟨h, _⟩ | ⟨_, h⟩
    · exact absurd h hall
    · exact ⟨h, x⟩
theorem cover_yes (ao : Option Addr) (cap : Nat) (L : List Spn) (w : World) (hl : L.length ≤ 140737488351232) (hat : SpAt w ao L) (hs : IsSet L) :
    Calls Tryd.prog 20 #[.slice ao L.length cap] w fun e w' => (∃ v, e = .returned (.tuple #[v, .int .i64 0]) ∧ OwnT 28 w' w.heap.size v (covL L)) ∧ Below w.heap.size w w' :=
  (cover_any ao cap L w hl hat).mono fun e w' ⟨h, x⟩ => by
    rcases h with ⟨_, h⟩ | ⟨h, _⟩
    · exact ⟨h, x⟩
    · exact absurd hs h
theorem range_p (p : Spn) (h : Pfx p.1 p.2) (w : World) : Calls Tryd.prog 17 #[.agg #[.int .i64 p.1, .int .i64 p.2]] w fun e w' => e = .returned (.tuple #[.agg #[.int .i64 (rngP p).1, .int .i64 (rngP p).2], .int .i64 0]) ∧ Below w.heap.size w w' := by
  have := range_any p.1 p.2 w
  rw [(rng_of h).1, (rng_of h).2.1, (rng_of h).2.2] at this
  exact this

set_option maxRecDepth 100000 in
set_option maxHeartbeats 4000000 in
theorem addrLeast_any (ao : Option Addr) (cap : Nat) (L : List Spn) (a k : Int) (w : World) (hl : L.length ≤ 140737488351232) (hat : SpAt w ao L) (ht : Tab w) :
    Calls Tryd.prog 7 #[.slice ao L.length cap, .agg #[.int .i64 a, .int .i64 k]] w fun e w' => e = .returned (.bool true) ∧ Below w.heap.size w w' := by
  by_cases hb : (33554431 : Int) < L.length
  · go_enter Tryd.func7, Tryd.ntmps7
    go_wp2
    go_ret
    exact ⟨rfl, al (Below.refl _ _) _⟩
  have S0 : St w w.heap.size a k (w.alloc (.cells #[.int .i64 a, .int .i64 k] 28)) := ⟨ht.below (al (Below.refl _ _) _), al (Below.refl _ _) _, heap_alloc_new w _⟩
  have HAT0 := hide (hat.below (al (Below.refl _ _) (.cells #[.int .i64 a, .int .i64 k] 28)))
  have hL2 : L.length ≤ 4294967296 := by omega
  clear ht hat
  by_cases hall : ∀ s ∈ L, Bnd s
  rotate_left
  · have HALL := hide hall
    clear hall
    go_enter Tryd.func7, Tryd.ntmps7
    go_wp2_with (first
      | (go_at_call 8; generalize w.alloc (.cells #[.int .i64 a, .int .i64 k] 28) = W0 at *; refine (awake_any W0 S0.tab).mono ?_; rintro e w1 ⟨rfl, x1⟩; have S1 := S0.next x1; have HAT1 := hide (HAT0.out.below x1); clear x1 S0 HAT0)
      | (go_at_call 24; refine (make_no ao cap L w1 hL2 HAT1.out HALL.out).mono ?_; rintro e w2 ⟨rfl, x2⟩; have S2 := S1.next x2; clear x2 S1))
    go_ret
    exact ⟨rfl, S2.below⟩
  obtain ⟨i0, hi, hz0, hz1, hz2⟩ := Tryd.info36'
  have HALL := hide hall
  clear hall
  go_enter Tryd.func7, Tryd.ntmps7
  go_wp2_with (first
    | (go_at_call 8; generalize w.alloc (.cells #[.int .i64 a, .int .i64 k] 28) = W0 at *; refine (awake_any W0 S0.tab).mono ?_; rintro e w1 ⟨rfl, x1⟩; have S1 := S0.next x1; have HAT1 := hide (HAT0.out.below x1); clear x1 S0 HAT0)
    | (go_at_call 24; refine (make_yes ao cap L w1 hL2 HAT1.out HALL.out).mono ?_; rintro e w2 ⟨⟨v2, A, rfl, o2, hA, hmem, hAL⟩, x2⟩; obtain ⟨a2, c2, rfl, at2, _⟩ := o2.shape; have S2 := S1.next x2; have AT2 := hide at2; have HA := hide hA; clear x2 S1 o2 at2 hA hmem)
    | (go_at_call 20; have hA5 := sizeL_le HA.out; have hA6 := covL_len A HA.out.1; refine (cover_yes a2 c2 A w2 (by omega) AT2.out HA.out).mono ?_; rintro e w3 ⟨⟨v3, rfl, o3⟩, x3⟩; have hCL : (covL A).length ≤ 4294967296 := (by omega); obtain ⟨a3, c3, rfl, at3, _⟩ := o3.shape; have S3 := S2.next x3; have AT3 := hide at3; have AT2' := hide (AT2.out.below x3); clear x3 S2 o3 at3 hA5 hA6))
  obtain ⟨P1, P2, P3⟩ := covL_props A HA.out
  have HP1 := hide P1
  have HP2 := hide P2
  have HP3 := hide P3
  clear P1 P2 P3
  generalize covL A = C at *
  go_loopw [10, 11, 12] (fun o la x wr => ∃ i : Nat, i ≤ C.length ∧ x = .int .i64 i ∧ ∃ last : Int, la = .int .i64 last ∧ Hid (last = if i = 0 then -1 else (rngP (C.getD (i - 1) (0, 0))).2) ∧ Hid (OwnT 36 wr w3.heap.size o ((C.take i).map rngP)) ∧ Below w3.heap.size w3 wr) (fun _ _ x _ => C.length - (RowKit.intOf x).toNat)
  case atStart => exact ⟨0, Nat.zero_le _, rfl, -1, rfl, rfl, OwnT.nil _ _ _, Below.refl _ _⟩
  case round =>
    obtain ⟨i, hi1, rfl, last, rfl, HLA, HO, hq⟩ := hrel
    have HQ := hide hq
    clear hq
    by_cases hlt : i < C.length
    · have hlt' : (i : Int) < C.length := by omega
      obtain ⟨cb, coff, rfl, hcb, hcc⟩ := AT3.out.get hlt
      have hcbr : cb < wr.heap.size := Nat.lt_of_lt_of_le hcb HQ.out.size
      obtain ⟨k0, k1⟩ := (hcc i hlt).below HQ.out hcb
      have HCC := hide hcc
      clear hcc
      obtain ⟨p, hp⟩ : ∃ p, p = C.getD i (0, 0) := ⟨_, rfl⟩
      have hpm : p ∈ C := by rw [hp]; simp [List.getD_eq_getElem?_getD, hlt]
      have hpp := (HP1.out p hpm).1
      have hTK : (C.take (i + 1)).map rngP = (C.take i).map rngP ++ [rngP p] := by
        rw [List.take_succ_eq_append_getElem hlt, List.map_append, hp]
        simp [List.getD_eq_getElem?_getD, hlt]
      have hlast : last < (rngP p).1 := by
        rw [HLA.out]
        have hb0 : 0 ≤ (rngP p).1 := (rngP_bnd hpp).1
        split
        · omega
        · rename_i h0
          have := List.pairwise_iff_getElem.1 HP2.out (i - 1) i (by omega) hlt (by omega)
          have h5 := this.1
          rw [hp]
          simp only [List.getD_eq_getElem?_getD, List.getElem?_eq_getElem hlt, List.getElem?_eq_getElem (show i - 1 < C.length by omega), Option.getD_some]
          unfold rngP
          simp only
          omega
      rw [← hp] at k0 k1
      have hrg := fun w => range_p p hpp w
      have hpp' := hpp
      unfold Pfx at hpp'
      have HPP := hide hpp
      have HP := hide hp
      obtain ⟨r, hr⟩ : ∃ r, r = rngP p := ⟨_, rfl⟩
      rw [← hr] at hrg hlast hTK
      have HR : Hid (r = rngP p) := hr
      have HTK := hide hTK
      have HLN : Hid (((C.take i).map rngP).length + 1 ≤ 4294967296) := by
        unfold Hid
        rw [List.length_map, List.length_take]
        omega
      have hno : ¬ r.1 ≤ last := by omega
      have HPQ : Hid (0 < i → ¬ (0 < p.2 ∧ (C.getD (i - 1) (0, 0)).2 = p.2 ∧ Pfx (C.getD (i - 1) (0, 0)).1 (p.2 - 1) ∧ (C.getD (i - 1) (0, 0)).1 + pw (p.2 - 1) = p.1 + pw p.2)) := by
        intro h0
        have := (List.pairwise_iff_getElem.1 HP2.out (i - 1) i (by omega) hlt (by omega)).2
        rw [hp]
        simpa only [List.getD_eq_getElem?_getD, List.getElem?_eq_getElem hlt, List.getElem?_eq_getElem (show i - 1 < C.length by omega), Option.getD_some] using this
      clear hr hTK hlast hp hpp hpm
      rename World => wL
      have HQW := hide (Nat.le_refl w3.heap.size)
      go_wp2_with (first
        | (go_at_call 17; refine (hrg _).mono ?_; rintro e w5 ⟨rfl, x5⟩; have hx5 := al x5 (.cells #[.int .i64 r.1, .int .i64 r.2] 36); have X6 := hide (bt HQ.out hx5 HQW.out); have R6 := hide (heap_alloc_new w5 (.cells #[.int .i64 r.1, .int .i64 r.2] 36)); have O6 := hide (HO.out.below hx5); have q1 := (hx5.cell (p := ⟨cb, coff + i * 2 + 1, none⟩) hcbr).trans k1; have q0 := (hx5.cell (p := ⟨cb, coff + i * 2, none⟩) hcbr).trans k0; obtain ⟨r0, r1, _, _⟩ := two_get R6.out; have hrb6 : w5.heap.size < (w5.alloc (.cells #[.int .i64 r.1, .int .i64 r.2] 36)).heap.size := (by simp); have hcb6 : cb < (w5.alloc (.cells #[.int .i64 r.1, .int .i64 r.2] 36)).heap.size := (Nat.lt_of_lt_of_le hcbr hx5.size); clear x5 hx5))
      generalize w5.heap.size = rb at *
      generalize w5.alloc (.cells #[.int .i64 r.1, .int .i64 r.2] 36) = W6 at *
      have HD : Hid (Below W6.heap.size W6 W6.drew) := (Below.refl _ _).drew
      clear k0 k1
      have fin : ∀ w', Below W6.heap.size W6 w' → Hid (Below w3.heap.size w3 w' ∧ w'.heap[rb]? = some (.cells #[.int .i64 r.1, .int .i64 r.2] 36 (0, 0)) ∧ OwnT 36 w' w3.heap.size u10 ((C.take i).map rngP)) := fun w' h => ⟨bt X6.out h HQW.out, blk h R6.out, O6.out.below h⟩
      have HF := hide fin
      clear fin
      by_cases h0 : i = 0
      · have hk0 : ¬ (0 : Int) < (i : Int) := by omega
        have H0 := hide h0
        have hN0 : ¬ 0 < i := by omega
        have hg0 : decide ((0 : Int) < (i : Int)) = false := decide_eq_false hk0
        clear h0
        refine wp_region_quiet (C := fun w' => Below W6.heap.size W6 w') (by kernel_rfl) (by kernel_rfl) HD.out ?_
        refine QW.out (l := _ :: _) ?_
        iterate 3 (refine QW.take (by rfl) ?_; apply Exists.intro; refine ⟨fun w' hw' => ?_, ?_⟩; (· (skip; go_simp; first | done | ((try simp only [hg0]); first | done | rfl))); try simp only [Act.put, List.setIfInBounds_toArray, List.set_cons_zero, List.set_cons_succ])
        iterate 6 (refine QW.skip (by rfl) ?_; try simp only [Act.put, List.setIfInBounds_toArray, List.set_cons_zero, List.set_cons_succ])
        iterate 2 (refine QW.take (by rfl) ?_; apply Exists.intro; refine ⟨fun w' hw' => ?_, ?_⟩; (· (skip; go_simp; first | done | ((try simp only [hg0]); first | done | rfl))); try simp only [Act.put, List.setIfInBounds_toArray, List.set_cons_zero, List.set_cons_succ])
        iterate 12 (refine QW.skip (by rfl) ?_; try simp only [Act.put, List.setIfInBounds_toArray, List.set_cons_zero, List.set_cons_succ])
        iterate 1 (refine QW.take (by rfl) ?_; apply Exists.intro; refine ⟨fun w' hw' => ?_, ?_⟩; (· (skip; go_simp; first | done | ((try simp only [hg0]); first | done | rfl))); try simp only [Act.put, List.setIfInBounds_toArray, List.set_cons_zero, List.set_cons_succ])
        refine QW.nil ?_
        intro w7 x7
        have F7 := HF.out w7 x7
        clear x7 q0 q1 r0 r1
        have Yz := hide F7.out.1
        have Rz := hide F7.out.2.1
        have Oz := hide F7.out.2.2
        generalize w7 = Wz at *
        obtain ⟨y0, y1, _, _⟩ := two_get Rz.out
        have HNz := hide (new_cells 36 Wz r Wz.heap.size rfl)
        have Xz := hide (al Yz.out (.cells #[.int .i64 r.1, .int .i64 r.2] 36))
        have HOz := hide (Oz.out.below (al (Below.refl _ _) (.cells #[.int .i64 r.1, .int .i64 r.2] 36)))
        go_wp2_with (at_builtin; refine wpList_append_own_at _ rfl (.tmp 121) (.tmp 123) 40 rfl w3.heap.size 36 i0 (.agg #[.int .i64 0, .int .i64 0]) 2 16 Tryd.underlying40 hi hz0 hz1 hz2 rfl (by decide) _ ((C.take i).map rngP).length (spCells ((C.take i).map rngP)) rfl HOz.out ⟨Wz.heap.size, 0, none⟩ 1 1 [.int .i64 r.1, .int .i64 r.2] rfl rfl HNz.out (by simp [Value.oneCell']) (by have := HLN.out; unfold maxLen; omega) (by have := HLN.out; omega) Xz.out.size ?_; intro v8 w8 h1 h2 _ h3; have O8 := hide (OwnT.snoc (s := r) h1); have X8 := hide (Xz.out.grown h2 Xz.out.size (fun k hk => (HOz.out.lt k hk).1)); clear h1 h2 h3)
        go_roundw
        case rel => exact ⟨i + 1, by omega, by go_num, r.2, rfl, by unfold Hid; rw [if_neg (by omega), Nat.add_sub_cancel, ← HP.out, HR.out], by rw [HTK.out]; exact O8.out, X8.out⟩
        case measure => simp [RowKit.intOf]; omega

      have hk0 : (0 : Int) < (i : Int) := by omega
      have hg0 : decide ((0 : Int) < (i : Int)) = true := decide_eq_true hk0
      have hN0 : 0 < i := by omega
      by_cases hb0 : 0 < p.2
      rotate_left
      · have hg1 : decide (0 < p.2) = false := decide_eq_false hb0
        refine wp_region_quiet (C := fun w' => Below W6.heap.size W6 w') (by kernel_rfl) (by kernel_rfl) HD.out ?_
        refine QW.out (l := _ :: _) ?_
        iterate 11 (refine QW.take (by rfl) ?_; apply Exists.intro; refine ⟨fun w' hw' => ?_, ?_⟩; (· (have g0 := (hw'.cell (p := ⟨cb, coff + i * 2 + 1, none⟩) hcb6).trans q1; go_simp; first | done | ((try simp only [hg0, hg1]); first | done | rfl))); try simp only [Act.put, List.setIfInBounds_toArray, List.set_cons_zero, List.set_cons_succ])
        iterate 12 (refine QW.skip (by rfl) ?_; try simp only [Act.put, List.setIfInBounds_toArray, List.set_cons_zero, List.set_cons_succ])
        iterate 1 (refine QW.take (by rfl) ?_; apply Exists.intro; refine ⟨fun w' hw' => ?_, ?_⟩; (· (have g0 := (hw'.cell (p := ⟨cb, coff + i * 2 + 1, none⟩) hcb6).trans q1; go_simp; first | done | ((try simp only [hg0, hg1]); first | done | rfl))); try simp only [Act.put, List.setIfInBounds_toArray, List.set_cons_zero, List.set_cons_succ])
        refine QW.nil ?_
        intro w7 x7
        have F7 := HF.out w7 x7
        clear x7 q0 q1 r0 r1
        have Yz := hide F7.out.1
        have Rz := hide F7.out.2.1
        have Oz := hide F7.out.2.2
        generalize w7 = Wz at *
        obtain ⟨y0, y1, _, _⟩ := two_get Rz.out
        have HNz := hide (new_cells 36 Wz r Wz.heap.size rfl)
        have Xz := hide (al Yz.out (.cells #[.int .i64 r.1, .int .i64 r.2] 36))
        have HOz := hide (Oz.out.below (al (Below.refl _ _) (.cells #[.int .i64 r.1, .int .i64 r.2] 36)))
        go_wp2_with (at_builtin; refine wpList_append_own_at _ rfl (.tmp 121) (.tmp 123) 40 rfl w3.heap.size 36 i0 (.agg #[.int .i64 0, .int .i64 0]) 2 16 Tryd.underlying40 hi hz0 hz1 hz2 rfl (by decide) _ ((C.take i).map rngP).length (spCells ((C.take i).map rngP)) rfl HOz.out ⟨Wz.heap.size, 0, none⟩ 1 1 [.int .i64 r.1, .int .i64 r.2] rfl rfl HNz.out (by simp [Value.oneCell']) (by have := HLN.out; unfold maxLen; omega) (by have := HLN.out; omega) Xz.out.size ?_; intro v8 w8 h1 h2 _ h3; have O8 := hide (OwnT.snoc (s := r) h1); have X8 := hide (Xz.out.grown h2 Xz.out.size (fun k hk => (HOz.out.lt k hk).1)); clear h1 h2 h3)
        go_roundw
        case rel => exact ⟨i + 1, by omega, by go_num, r.2, rfl, by unfold Hid; rw [if_neg (by omega), Nat.add_sub_cancel, ← HP.out, HR.out], by rw [HTK.out]; exact O8.out, X8.out⟩
        case measure => simp [RowKit.intOf]; omega

      have hg1 : decide (0 < p.2) = true := decide_eq_true hb0
      obtain ⟨m0, m1⟩ := (HCC.out (i - 1) (by omega)).below X6.out hcb
      have hpq := HPQ.out (by omega)
      obtain ⟨z, hz⟩ : ∃ z, z = C.getD (i - 1) (0, 0) := ⟨_, rfl⟩
      rw [← hz] at m0 m1 hpq
      have HZ := hide hz
      have HPQ2 := hide hpq
      clear hz hpq
      have hkz : ((i : Int) - 1) = ((i - 1 : Nat) : Int) := by omega
      have fit : IntKind.i64.wrap ((i - 1 : Nat) : Int) = ((i - 1 : Nat) : Int) := by simp [IntKind.wrap, IntKind.bits, IntKind.signed]; omega
      have hi2 : ((i - 1 : Nat) : Int) < (C.length : Int) := by omega
      by_cases heq : z.2 = p.2
      rotate_left
      · have hne : (z.2 == p.2) = false := beq_eq_false_iff_ne.2 heq
        clear heq
        refine wp_region_quiet (C := fun w' => Below W6.heap.size W6 w') (by kernel_rfl) (by kernel_rfl) HD.out ?_
        refine QW.out (l := _ :: _) ?_
        iterate 24 (refine QW.take (by rfl) ?_; apply Exists.intro; refine ⟨fun w' hw' => ?_, ?_⟩; (· (have g0 := (hw'.cell (p := ⟨cb, coff + i * 2 + 1, none⟩) hcb6).trans q1; have g3 := (hw'.cell (p := ⟨cb, coff + (i - 1) * 2 + 1, none⟩) hcb6).trans m1; go_simp; first | done | ((try simp only [fit, hne, hg0, hg1]); first | done | rfl))); try simp only [Act.put, List.setIfInBounds_toArray, List.set_cons_zero, List.set_cons_succ])
        refine QW.nil ?_
        intro w7 x7
        have F7 := HF.out w7 x7
        clear x7 q0 q1 r0 r1 m0 m1
        have Yz := hide F7.out.1
        have Rz := hide F7.out.2.1
        have Oz := hide F7.out.2.2
        generalize w7 = Wz at *
        obtain ⟨y0, y1, _, _⟩ := two_get Rz.out
        have HNz := hide (new_cells 36 Wz r Wz.heap.size rfl)
        have Xz := hide (al Yz.out (.cells #[.int .i64 r.1, .int .i64 r.2] 36))
        have HOz := hide (Oz.out.below (al (Below.refl _ _) (.cells #[.int .i64 r.1, .int .i64 r.2] 36)))
        go_wp2_with (at_builtin; refine wpList_append_own_at _ rfl (.tmp 121) (.tmp 123) 40 rfl w3.heap.size 36 i0 (.agg #[.int .i64 0, .int .i64 0]) 2 16 Tryd.underlying40 hi hz0 hz1 hz2 rfl (by decide) _ ((C.take i).map rngP).length (spCells ((C.take i).map rngP)) rfl HOz.out ⟨Wz.heap.size, 0, none⟩ 1 1 [.int .i64 r.1, .int .i64 r.2] rfl rfl HNz.out (by simp [Value.oneCell']) (by have := HLN.out; unfold maxLen; omega) (by have := HLN.out; omega) Xz.out.size ?_; intro v8 w8 h1 h2 _ h3; have O8 := hide (OwnT.snoc (s := r) h1); have X8 := hide (Xz.out.grown h2 Xz.out.size (fun k hk => (HOz.out.lt k hk).1)); clear h1 h2 h3)
        go_roundw
        case rel => exact ⟨i + 1, by omega, by go_num, r.2, rfl, by unfold Hid; rw [if_neg (by omega), Nat.add_sub_cancel, ← HP.out, HR.out], by rw [HTK.out]; exact O8.out, X8.out⟩
        case measure => simp [RowKit.intOf]; omega

      have hne : (z.2 == p.2) = true := beq_iff_eq.2 heq
      have HEQ := hide heq
      have fp : IntKind.i64.wrap (p.2 - 1) = p.2 - 1 := by simp [IntKind.wrap, IntKind.bits, IntKind.signed]; omega
      clear heq
      refine wp_region_quiet (C := fun w' => Below W6.heap.size W6 w') (by kernel_rfl) (by kernel_rfl) HD.out ?_
      refine QW.out (l := _ :: _) ?_
      iterate 24 (refine QW.take (by rfl) ?_; apply Exists.intro; refine ⟨fun w' hw' => ?_, ?_⟩; (· (have g0 := (hw'.cell (p := ⟨cb, coff + i * 2 + 1, none⟩) hcb6).trans q1; have g3 := (hw'.cell (p := ⟨cb, coff + (i - 1) * 2 + 1, none⟩) hcb6).trans m1; go_simp; first | done | ((try simp only [fit, hne, hg0, hg1]); first | done | rfl))); try simp only [Act.put, List.setIfInBounds_toArray, List.set_cons_zero, List.set_cons_succ])
      refine QW.nil ?_
      intro w7 x7
      have F7 := HF.out w7 x7
      have n0 := (x7.cell (p := ⟨cb, coff + (i - 1) * 2, none⟩) hcb6).trans m0
      have n1 := (x7.cell (p := ⟨cb, coff + i * 2 + 1, none⟩) hcb6).trans q1
      have hcb7 : cb < w7.heap.size := Nat.lt_of_lt_of_le hcb6 x7.size
      clear x7 q0 q1 r0 r1 m0 m1
      by_cases hpf : Pfx z.1 (p.2 - 1)
      · have hrz := fun w => range_p (z.1, p.2 - 1) hpf w
        have hhi : ((rngP (z.1, p.2 - 1)).2 == r.2) = false := by
          rw [beq_eq_false_iff_ne, HR.out]
          intro h
          refine HPQ2.out ⟨hb0, HEQ.out, hpf, ?_⟩
          unfold rngP at h
          simp only at h
          omega
        generalize rngP (z.1, p.2 - 1) = rz at *
        go_wp2
        have hA7 := al (Below.refl w7.heap.size w7) (.cells #[.int .i64 0, .int .i64 0] 36)
        have hB7 := heap_alloc_new w7 (.cells #[.int .i64 0, .int .i64 0] 36)
        have HA7 := hide hA7
        have HB7 := hide hB7
        clear hA7 hB7
        go_region_held3 (fun w' => w'.cell? ⟨cb, coff + (i - 1) * 2, none⟩ = some (.int .i64 z.1) ∧ w'.cell? ⟨cb, coff + i * 2 + 1, none⟩ = some (.int .i64 p.2)) (first | assumption | (simp [go_sem, *]; done))
          (first
            | (go_at_call 17; refine (hrz w7.drew).mono ?_; rintro e w8 ⟨rfl, x8⟩; have e0 : w8.cell? ⟨cb, coff + (i - 1) * 2, none⟩ = some (.int .i64 z.1) := ((x8.cell (p := ⟨cb, coff + (i - 1) * 2, none⟩) hcb7).trans n0); have e1 : w8.cell? ⟨cb, coff + i * 2 + 1, none⟩ = some (.int .i64 p.2) := ((x8.cell (p := ⟨cb, coff + i * 2 + 1, none⟩) hcb7).trans n1); have hcb8 : cb < w8.heap.size := (Nat.lt_of_lt_of_le hcb7 x8.size); have hne8 : ¬ w8.heap.size = cb := (by omega); have hne9 : ¬ cb = w8.heap.size := (by omega); have y8 : Below w7.heap.size w7 w8 := ((Below.refl _ _).drew.trans x8); have X8 := hide y8; clear x8 y8)
            | (go_at_call 17; refine (hrz (w7.alloc (.cells #[.int .i64 0, .int .i64 0] 36)).drew).mono ?_; rintro e w8 ⟨rfl, x8⟩; have y8 : Below w7.heap.size w7 w8 := (HA7.out.drew.trans (x8.mono HA7.out.size)); have e0 : w8.cell? ⟨cb, coff + (i - 1) * 2, none⟩ = some (.int .i64 z.1) := ((y8.cell (p := ⟨cb, coff + (i - 1) * 2, none⟩) hcb7).trans n0); have e1 : w8.cell? ⟨cb, coff + i * 2 + 1, none⟩ = some (.int .i64 p.2) := ((y8.cell (p := ⟨cb, coff + i * 2 + 1, none⟩) hcb7).trans n1); have B8 := hide ((x8.block w7.heap.size (lt_of_block HB7.out)).trans HB7.out); obtain ⟨s0, s1, t0, t1⟩ := two_get B8.out; have hne8 : ¬ w7.heap.size = cb := (by omega); have hne9 : ¬ cb = w7.heap.size := (by omega); have X8 := hide y8; clear x8 y8))

        · have XA := hide (al X8.out (.cells #[.int .i64 rz.1, .int .i64 rz.2] 36))
          have BA := heap_alloc_new w8 (.cells #[.int .i64 rz.1, .int .i64 rz.2] 36)
          obtain ⟨o0, o1, _, _⟩ := two_get BA
          clear e0 e1 n0 n1 BA
          have Yz := hide (bt F7.out.1 XA.out HQW.out)
          have Rz := hide (blk XA.out F7.out.2.1)
          have Oz := hide (F7.out.2.2.below XA.out)
          generalize w8.alloc (.cells #[.int .i64 rz.1, .int .i64 rz.2] 36) = Wz at *
          obtain ⟨y0, y1, _, _⟩ := two_get Rz.out
          have HNz := hide (new_cells 36 Wz r Wz.heap.size rfl)
          have Xz := hide (al Yz.out (.cells #[.int .i64 r.1, .int .i64 r.2] 36))
          have HOz := hide (Oz.out.below (al (Below.refl _ _) (.cells #[.int .i64 r.1, .int .i64 r.2] 36)))
          go_wp2_with (at_builtin; refine wpList_append_own_at _ rfl (.tmp 121) (.tmp 123) 40 rfl w3.heap.size 36 i0 (.agg #[.int .i64 0, .int .i64 0]) 2 16 Tryd.underlying40 hi hz0 hz1 hz2 rfl (by decide) _ ((C.take i).map rngP).length (spCells ((C.take i).map rngP)) rfl HOz.out ⟨Wz.heap.size, 0, none⟩ 1 1 [.int .i64 r.1, .int .i64 r.2] rfl rfl HNz.out (by simp [Value.oneCell']) (by have := HLN.out; unfold maxLen; omega) (by have := HLN.out; omega) Xz.out.size ?_; intro v8 w8 h1 h2 _ h3; have O8 := hide (OwnT.snoc (s := r) h1); have X8 := hide (Xz.out.grown h2 Xz.out.size (fun k hk => (HOz.out.lt k hk).1)); clear h1 h2 h3)
          go_roundw
          case rel => exact ⟨i + 1, by omega, by go_num, r.2, rfl, by unfold Hid; rw [if_neg (by omega), Nat.add_sub_cancel, ← HP.out, HR.out], by rw [HTK.out]; exact O8.out, X8.out⟩
          case measure => simp [RowKit.intOf]; omega

        · have XA := hide ((X8.out.setCell (p := ⟨w7.heap.size, 0, none⟩) (Nat.le_refl _) (.int .i64 rz.1)).setCell (p := ⟨w7.heap.size, 1, none⟩) (Nat.le_refl _) (.int .i64 rz.2))
          have BA := two_set B8.out (.int .i64 rz.1) (.int .i64 rz.2)
          obtain ⟨o0, o1, _, _⟩ := two_get BA
          clear e0 e1 n0 n1 BA s0 s1 t0 t1
          have Yz := hide (bt F7.out.1 XA.out HQW.out)
          have Rz := hide (blk XA.out F7.out.2.1)
          have Oz := hide (F7.out.2.2.below XA.out)
          generalize ((w8.setCell ⟨w7.heap.size, 0, none⟩ (.int .i64 rz.1)).setCell ⟨w7.heap.size, 1, none⟩ (.int .i64 rz.2)) = Wz at *
          obtain ⟨y0, y1, _, _⟩ := two_get Rz.out
          have HNz := hide (new_cells 36 Wz r Wz.heap.size rfl)
          have Xz := hide (al Yz.out (.cells #[.int .i64 r.1, .int .i64 r.2] 36))
          have HOz := hide (Oz.out.below (al (Below.refl _ _) (.cells #[.int .i64 r.1, .int .i64 r.2] 36)))
          go_wp2_with (at_builtin; refine wpList_append_own_at _ rfl (.tmp 121) (.tmp 123) 40 rfl w3.heap.size 36 i0 (.agg #[.int .i64 0, .int .i64 0]) 2 16 Tryd.underlying40 hi hz0 hz1 hz2 rfl (by decide) _ ((C.take i).map rngP).length (spCells ((C.take i).map rngP)) rfl HOz.out ⟨Wz.heap.size, 0, none⟩ 1 1 [.int .i64 r.1, .int .i64 r.2] rfl rfl HNz.out (by simp [Value.oneCell']) (by have := HLN.out; unfold maxLen; omega) (by have := HLN.out; omega) Xz.out.size ?_; intro v8 w8 h1 h2 _ h3; have O8 := hide (OwnT.snoc (s := r) h1); have X8 := hide (Xz.out.grown h2 Xz.out.size (fun k hk => (HOz.out.lt k hk).1)); clear h1 h2 h3)
          go_roundw
          case rel => exact ⟨i + 1, by omega, by go_num, r.2, rfl, by unfold Hid; rw [if_neg (by omega), Nat.add_sub_cancel, ← HP.out, HR.out], by rw [HTK.out]; exact O8.out, X8.out⟩
          case measure => simp [RowKit.intOf]; omega

      · have hrz : ∀ w, Calls Tryd.prog 17 #[.agg #[.int .i64 z.1, .int .i64 (p.2 - 1)]] w fun e w' => e = .returned (.tuple #[.agg #[.int .i64 0, .int .i64 0], .int .i64 1]) ∧ Below w.heap.size w w' := fun w => by
          have := range_any z.1 (p.2 - 1) w
          unfold rngL rngH pprE at this
          rw [if_neg hpf, if_neg hpf, if_neg hpf] at this
          exact this
        go_wp2
        have hA7 := al (Below.refl w7.heap.size w7) (.cells #[.int .i64 0, .int .i64 0] 36)
        have hB7 := heap_alloc_new w7 (.cells #[.int .i64 0, .int .i64 0] 36)
        have HA7 := hide hA7
        have HB7 := hide hB7
        clear hA7 hB7
        go_region_held3 (fun w' => w'.cell? ⟨cb, coff + (i - 1) * 2, none⟩ = some (.int .i64 z.1) ∧ w'.cell? ⟨cb, coff + i * 2 + 1, none⟩ = some (.int .i64 p.2)) (first | assumption | (simp [go_sem, *]; done))
          (first
            | (go_at_call 17; refine (hrz w7.drew).mono ?_; rintro e w8 ⟨rfl, x8⟩; have e0 : w8.cell? ⟨cb, coff + (i - 1) * 2, none⟩ = some (.int .i64 z.1) := ((x8.cell (p := ⟨cb, coff + (i - 1) * 2, none⟩) hcb7).trans n0); have e1 : w8.cell? ⟨cb, coff + i * 2 + 1, none⟩ = some (.int .i64 p.2) := ((x8.cell (p := ⟨cb, coff + i * 2 + 1, none⟩) hcb7).trans n1); have hcb8 : cb < w8.heap.size := (Nat.lt_of_lt_of_le hcb7 x8.size); have hne8 : ¬ w8.heap.size = cb := (by omega); have hne9 : ¬ cb = w8.heap.size := (by omega); have y8 : Below w7.heap.size w7 w8 := ((Below.refl _ _).drew.trans x8); have X8 := hide y8; clear x8 y8)
            | (go_at_call 17; refine (hrz (w7.alloc (.cells #[.int .i64 0, .int .i64 0] 36)).drew).mono ?_; rintro e w8 ⟨rfl, x8⟩; have y8 : Below w7.heap.size w7 w8 := (HA7.out.drew.trans (x8.mono HA7.out.size)); have e0 : w8.cell? ⟨cb, coff + (i - 1) * 2, none⟩ = some (.int .i64 z.1) := ((y8.cell (p := ⟨cb, coff + (i - 1) * 2, none⟩) hcb7).trans n0); have e1 : w8.cell? ⟨cb, coff + i * 2 + 1, none⟩ = some (.int .i64 p.2) := ((y8.cell (p := ⟨cb, coff + i * 2 + 1, none⟩) hcb7).trans n1); have B8 := hide ((x8.block w7.heap.size (lt_of_block HB7.out)).trans HB7.out); obtain ⟨s0, s1, t0, t1⟩ := two_get B8.out; have hne8 : ¬ w7.heap.size = cb := (by omega); have hne9 : ¬ cb = w7.heap.size := (by omega); have X8 := hide y8; clear x8 y8))

        · have XA := hide (al X8.out (.cells #[.int .i64 0, .int .i64 0] 36))
          clear e0 e1 n0 n1
          have Yz := hide (bt F7.out.1 XA.out HQW.out)
          have Rz := hide (blk XA.out F7.out.2.1)
          have Oz := hide (F7.out.2.2.below XA.out)
          generalize w8.alloc (.cells #[.int .i64 0, .int .i64 0] 36) = Wz at *
          obtain ⟨y0, y1, _, _⟩ := two_get Rz.out
          have HNz := hide (new_cells 36 Wz r Wz.heap.size rfl)
          have Xz := hide (al Yz.out (.cells #[.int .i64 r.1, .int .i64 r.2] 36))
          have HOz := hide (Oz.out.below (al (Below.refl _ _) (.cells #[.int .i64 r.1, .int .i64 r.2] 36)))
          go_wp2_with (at_builtin; refine wpList_append_own_at _ rfl (.tmp 121) (.tmp 123) 40 rfl w3.heap.size 36 i0 (.agg #[.int .i64 0, .int .i64 0]) 2 16 Tryd.underlying40 hi hz0 hz1 hz2 rfl (by decide) _ ((C.take i).map rngP).length (spCells ((C.take i).map rngP)) rfl HOz.out ⟨Wz.heap.size, 0, none⟩ 1 1 [.int .i64 r.1, .int .i64 r.2] rfl rfl HNz.out (by simp [Value.oneCell']) (by have := HLN.out; unfold maxLen; omega) (by have := HLN.out; omega) Xz.out.size ?_; intro v8 w8 h1 h2 _ h3; have O8 := hide (OwnT.snoc (s := r) h1); have X8 := hide (Xz.out.grown h2 Xz.out.size (fun k hk => (HOz.out.lt k hk).1)); clear h1 h2 h3)
          go_roundw
          case rel => exact ⟨i + 1, by omega, by go_num, r.2, rfl, by unfold Hid; rw [if_neg (by omega), Nat.add_sub_cancel, ← HP.out, HR.out], by rw [HTK.out]; exact O8.out, X8.out⟩
          case measure => simp [RowKit.intOf]; omega

        · have XA := hide ((X8.out.setCell (p := ⟨w7.heap.size, 0, none⟩) (Nat.le_refl _) (.int .i64 0)).setCell (p := ⟨w7.heap.size, 1, none⟩) (Nat.le_refl _) (.int .i64 0))
          clear e0 e1 n0 n1 s0 s1 t0 t1
          have Yz := hide (bt F7.out.1 XA.out HQW.out)
          have Rz := hide (blk XA.out F7.out.2.1)
          have Oz := hide (F7.out.2.2.below XA.out)
          generalize ((w8.setCell ⟨w7.heap.size, 0, none⟩ (.int .i64 0)).setCell ⟨w7.heap.size, 1, none⟩ (.int .i64 0)) = Wz at *
          obtain ⟨y0, y1, _, _⟩ := two_get Rz.out
          have HNz := hide (new_cells 36 Wz r Wz.heap.size rfl)
          have Xz := hide (al Yz.out (.cells #[.int .i64 r.1, .int .i64 r.2] 36))
          have HOz := hide (Oz.out.below (al (Below.refl _ _) (.cells #[.int .i64 r.1, .int .i64 r.2] 36)))
          go_wp2_with (at_builtin; refine wpList_append_own_at _ rfl (.tmp 121) (.tmp 123) 40 rfl w3.heap.size 36 i0 (.agg #[.int .i64 0, .int .i64 0]) 2 16 Tryd.underlying40 hi hz0 hz1 hz2 rfl (by decide) _ ((C.take i).map rngP).length (spCells ((C.take i).map rngP)) rfl HOz.out ⟨Wz.heap.size, 0, none⟩ 1 1 [.int .i64 r.1, .int .i64 r.2] rfl rfl HNz.out (by simp [Value.oneCell']) (by have := HLN.out; unfold maxLen; omega) (by have := HLN.out; omega) Xz.out.size ?_; intro v8 w8 h1 h2 _ h3; have O8 := hide (OwnT.snoc (s := r) h1); have X8 := hide (Xz.out.grown h2 Xz.out.size (fun k hk => (HOz.out.lt k hk).1)); clear h1 h2 h3)
          go_roundw
          case rel => exact ⟨i + 1, by omega, by go_num, r.2, rfl, by unfold Hid; rw [if_neg (by omega), Nat.add_sub_cancel, ← HP.out, HR.out], by rw [HTK.out]; exact O8.out, X8.out⟩
          case measure => simp [RowKit.intOf]; omega

    · have h8 : i = C.length := by omega
      subst h8
      rw [List.take_length] at HO
      have hlt' : ¬ (C.length : Int) < C.length := by omega
      obtain ⟨a6, c6, hv6, at6, _⟩ := HO.out.shape
      have AT6 := hide at6
      have hRall : ∀ s ∈ C.map rngP, Bnd s := by
        intro s hs
        obtain ⟨q, hq, rfl⟩ := List.mem_map.1 hs
        exact rngP_bnd (HP1.out q hq).1
      have HRA := hide hRall
      have hRl : (C.map rngP).length ≤ 4294967296 := by rw [List.length_map]; exact hCL
      have AT2w := hide (AT2'.out.below HQ.out)
      have S5 := S3.next HQ.out
      clear hRall at6 HO HLA HP1 HP2 AT3 AT2'
      generalize C.map rngP = R at *
      subst hv6
      have hun : ∀ M, IsSet M ∧ (∀ n, memB n M = memB n R) → M = A := fun M h => IsSet.unique h.1 HA.out (fun n => (h.2 n).trans (HP3.out n))
      have HUN := hide hun
      clear hun
      go_wp2_with (first
        | (go_at_call 24; refine (make_yes a6 c6 R wr hRl AT6.out HRA.out).mono ?_; rintro e w7 ⟨⟨v7, M, rfl, o7, hM, hmem7, _⟩, x7⟩; have hMA := HUN.out M ⟨hM, hmem7⟩; subst hMA; obtain ⟨a7, c7, rfl, at7, _⟩ := o7.shape; have S7 := S5.next x7; have AT7 := hide at7; have AT2x := hide (AT2w.out.below x7); clear x7 o7 at7 hM hmem7 S5))
      go_loopw [19] (fun x wq => ∃ j : Nat, j ≤ M.length ∧ x = .int .i64 j ∧ Below w7.heap.size w7 wq) (fun x _ => M.length - (RowKit.intOf x).toNat)
      case atStart => exact ⟨0, Nat.zero_le _, rfl, Below.refl _ _⟩
      case round =>
        obtain ⟨j, hj, rfl, hq7⟩ := hrel
        have HQ7 := hide hq7
        clear hq7
        by_cases hlt : j < M.length
        · have hlt2 : (j : Int) < M.length := by omega
          obtain ⟨b1, f1, rfl, hb1, hc1⟩ := AT2x.out.get hlt
          obtain ⟨b2, f2, rfl, hb2, hc2⟩ := AT7.out.get hlt
          obtain ⟨d1, d2⟩ := (hc1 j hlt).below HQ7.out hb1
          obtain ⟨d3, d4⟩ := (hc2 j hlt).below HQ7.out hb2
          generalize M.getD j (0, 0) = s at *
          clear hc1 hc2
          go_wp2
          go_region
          go_wp2
          go_roundw
          case rel => exact ⟨j + 1, by omega, by go_num, HQ7.out.drew⟩
          case measure => simp [RowKit.intOf]; omega
        · have h9 : j = M.length := by omega
          subst h9
          have hlt2 : ¬ (M.length : Int) < M.length := by omega
          have S8 := S7.next HQ7.out
          obtain ⟨p0, p1⟩ := S8.cells
          by_cases hpf : Pfx a k
          rotate_left
          · have hrz : ∀ w, Calls Tryd.prog 17 #[.agg #[.int .i64 a, .int .i64 k]] w fun e w' => e = .returned (.tuple #[.agg #[.int .i64 0, .int .i64 0], .int .i64 1]) ∧ Below w.heap.size w w' := fun w => by
              have := range_any a k w
              unfold rngL rngH pprE at this
              rw [if_neg hpf, if_neg hpf, if_neg hpf] at this
              exact this
            go_wp2_with (go_at_call 17; refine (hrz _).mono ?_; rintro e w9 ⟨rfl, x9⟩; have S9 := (S8.next x9).alloc (.cells #[.int .i64 0, .int .i64 0] 36); clear x9)
            go_ret
            exact ⟨rfl, S9.below⟩
          · have hrz := fun w => range_p (a, k) hpf w
            obtain ⟨v1, v2⟩ := covL_self hpf
            have HV1 := hide v1
            have HV2 := hide v2
            generalize rngP (a, k) = rr at *
            clear v1 v2
            have hcv : ∀ (W : World) (b : Nat), W.heap[b]? = some (.cells #[.int .i64 rr.1, .int .i64 rr.2] 36 (0, 0)) → Calls Tryd.prog 20 #[.slice (some ⟨b, 0, none⟩) 1 1] W fun e w' => (∃ b' off cap', e = .returned (.tuple #[.slice (some ⟨b', off, none⟩) 1 cap', .int .i64 0]) ∧ b' < w'.heap.size ∧ w'.cell? ⟨b', off, none⟩ = some (.int .i64 a) ∧ w'.cell? ⟨b', off + 1, none⟩ = some (.int .i64 k)) ∧ Below W.heap.size W w' := by
              intro W b hb
              have hat : SpAt W (some ⟨b, 0, none⟩) [rr] := .inr ⟨b, 0, rfl, lt_of_block hb, fun i hi => by
                obtain rfl : i = 0 := by simp at hi; omega
                exact ⟨(two_get hb).1, (two_get hb).2.1⟩⟩
              refine (cover_yes _ 1 [rr] W (by simp) hat HV2.out).mono ?_
              rintro e w' ⟨⟨v, rfl, ho⟩, x⟩
              rw [HV1.out] at ho
              obtain ⟨ao', cap', rfl, h1, h2⟩ := ho.shape
              obtain ⟨b', off, rfl, hb', hc⟩ := h1.get (i := 0) (by simp)
              exact ⟨⟨b', off, cap', rfl, hb', (hc 0 (by simp)).1, (hc 0 (by simp)).2⟩, x⟩
            go_wp2_with (first
              | (go_at_call 17; refine (hrz _).mono ?_; rintro e w9 ⟨rfl, x9⟩; have S9 := (S8.next x9).alloc (.cells #[.int .i64 rr.1, .int .i64 rr.2] 36); have B9 := hide (heap_alloc_new w9 (.cells #[.int .i64 rr.1, .int .i64 rr.2] 36)); obtain ⟨g0, g1, _, _⟩ := two_get B9.out; have S10 := S9.alloc (.cells #[.int .i64 rr.1, .int .i64 rr.2] 36); have B10 := hide (heap_alloc_new (w9.alloc (.cells #[.int .i64 rr.1, .int .i64 rr.2] 36)) (.cells #[.int .i64 rr.1, .int .i64 rr.2] 36)); clear x9 p0 p1 S9)
              | (go_at_call 20; have hz10 : (w9.alloc (.cells #[.int .i64 rr.1, .int .i64 rr.2] 36)).heap.size = w9.heap.size + 1 := (by simp); rw [hz10] at B10; clear g0 g1; generalize (w9.alloc (.cells #[.int .i64 rr.1, .int .i64 rr.2] 36)).alloc (.cells #[.int .i64 rr.1, .int .i64 rr.2] 36) = W10 at *; refine (hcv W10 _ B10.out).mono ?_; rintro e w11 ⟨⟨b', off, cap', rfl, hb', e0, e1⟩, x11⟩; have S11 := S10.next x11; obtain ⟨p0, p1⟩ := S11.cells; clear x11 S10 hz10))
            have hpb : w.heap.size < w11.heap.size := lt_of_block S11.at'
            have HD : Hid (Below w11.heap.size w11 w11.drew) := (Below.refl _ _).drew
            refine wp_region_quiet (C := fun w' => Below w11.heap.size w11 w') (by kernel_rfl) (by kernel_rfl) HD.out ?_
            refine QW.out (l := _ :: _) ?_
            iterate 15 (refine QW.take (by rfl) ?_; apply Exists.intro; refine ⟨fun w' hw' => ?_, ?_⟩; (· (have g0 := (hw'.cell (p := ⟨w.heap.size, 0, none⟩) hpb).trans p0; have g1 := (hw'.cell (p := ⟨w.heap.size, 1, none⟩) hpb).trans p1; have g2 := (hw'.cell (p := ⟨b', off, none⟩) hb').trans e0; have g3 := (hw'.cell (p := ⟨b', off + 1, none⟩) hb').trans e1; go_simp; first | done | (first | done | rfl))); try simp only [Act.put, List.setIfInBounds_toArray, List.set_cons_zero, List.set_cons_succ])
            refine QW.nil ?_
            intro w12 x12
            have S12 := S11.next x12
            clear x12 p0 p1 e0 e1
            go_wp2
            go_ret
            exact ⟨rfl, S12.below⟩
end Go.Proofs.YtfjifedfenpbbaaDoor
