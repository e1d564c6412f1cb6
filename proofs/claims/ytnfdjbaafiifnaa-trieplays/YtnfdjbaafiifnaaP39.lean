/-
  The document's Put by its contract. No condition.
-/
import Derived.Test.YtnfdjbaafiifnaaP38
import Derived.Deep.DeepCutAuto
import Derived.Deep.CutBlock
namespace Go.Proofs.Ytnfdjbaafiifnaa
open Go.RowKit Go.Lib

/-- Cuts that are gathered beside a box. -/
structure PuS (w : World) (P : Nat) (a k : Int) (wr : World) (v : Value) (L : List Ct) : Prop where
  own : OwnC wr w.heap.size v L
  bel : Below w.heap.size w wr
  box : wr.heap[P]? = some (.cells #[.int .i64 a, .int .i64 k] 42 (0, 0))
theorem PuS.next {w wr w' : World} {P : Nat} {a k : Int} {v : Value} {L : List Ct} (h : PuS w P a k wr v L) (x : Below wr.heap.size wr w') : PuS w P a k w' v L :=
  ⟨own_below h.own x, h.bel.trans (x.mono h.bel.size), (x.block P (lt_of_block h.box)).trans h.box⟩
theorem PuS.with {w wr : World} {P : Nat} {a k : Int} {v : Value} {L : List Ct} (h : PuS w P a k wr v L) (c : Ct) (hl : L.length ≤ 8589934592) :
    Calls Try.prog 47 #[v, .agg #[.int .i64 c.1, .int .i64 c.2]] wr fun e w' => ∃ v', e = .returned v' ∧ PuS w P a k w' v' (withL L c) := by
  refine (with_any v L c.1 c.2 w.heap.size wr h.bel.size hl h.own).mono ?_
  rintro e w' ⟨⟨v', rfl, ho⟩, hb, F, hk, hF⟩
  refine ⟨v', rfl, ho, h.bel.trans hb, (hk.block P (lt_of_block h.box) (fun hf => ?_)).trans h.box⟩
  obtain ⟨cs, hc⟩ := own_ty h.own P (hF P hf)
  rw [h.box] at hc
  injection hc with hc
  injection hc with _ hc _
  cases hc
theorem block_setCell4 {w : World} {b : Nat} {u : Value} {t : TypeId} (h : w.heap[b]? = some (.cells #[u] t (0, 0))) (v : Value) : (w.setCell ⟨b, 0, none⟩ v).heap[b]? = some (.cells #[v] t (0, 0)) := by
  have := block_setCell h 0 v
  simpa using this
/-- What Put does. -/
def PuD (w : World) (b : Nat) (g : Nat → Int) (a k l : Int) (e : Ending) (w' : World) : Prop :=
  (¬ (Pfx a k ∧ Lab l) → e = .returned (.int .i64 1) ∧ Below w.heap.size w w') ∧
  (Pfx a k ∧ Lab l → e = .returned (.int .i64 0) ∧ DtAt w' b (putF g a.toNat (2 ^ (32 - k.toNat)) l) ∧ Kept (fun j => j = b) w w')
set_option maxHeartbeats 2000000 in
set_option maxRecDepth 100000 in
theorem putD_any {w : World} {b : Nat} {g : Nat → Int} (a k l : Int) (h : DtAt w b g) :
    Calls Try.prog 28 #[.pointer (some ⟨b, 0, none⟩), .agg #[.int .i64 a, .int .i64 k], .int .i64 l] w fun e w' => PuD w b g a k l e w' := by
  have HR := hide (fun W => refRight_any a k W)
  have HL := hide (fun W => refIsLabel_any l W)
  obtain ⟨W, hW⟩ : ∃ W, W = w.alloc (.cells #[.int .i64 a, .int .i64 k] 42) := ⟨_, rfl⟩
  have XW := hide (show Below w.heap.size w W by rw [hW]; exact al (Below.refl _ _) _)
  have HP := hide (show W.heap[w.heap.size]? = some (.cells #[.int .i64 a, .int .i64 k] 42 (0, 0)) by rw [hW]; exact heap_alloc_new w _)
  obtain ⟨P, hP⟩ : ∃ P, P = w.heap.size := ⟨_, rfl⟩
  rw [← hP] at HP
  have p0 : W.cell? ⟨P, 0, none⟩ = some (.int .i64 a) := by rw [cell_of_row _ _ _ _ _ _ HP.out]; rfl
  have p1 : W.cell? ⟨P, 1, none⟩ = some (.int .i64 k) := by rw [cell_of_row _ _ _ _ _ _ HP.out]; rfl
  have hPl : P < W.heap.size := lt_of_block HP.out
  by_cases hpl : Pfx a k ∧ Lab l
  · obtain ⟨hpf, hlb⟩ := hpl
    rw [decide_eq_true hpf] at HR
    rw [decide_eq_true hlb] at HL
    obtain ⟨A, K, hA, hK, hK32, hA32, hAm⟩ := hpf.nat
    subst hA hK
    have HPD : Hid (∀ e w', e = .returned (.int .i64 0) → DtAt w' b (putF g A (2 ^ (32 - K)) l) → Kept (fun j => j = b) w w' → PuD w b g A K l e w') := fun e w' h1 h2 h3 => ⟨fun h => absurd ⟨hpf, hlb⟩ h, fun _ => ⟨h1, by rw [Int.toNat_natCast, Int.toNat_natCast]; exact h2, h3⟩⟩
    obtain ⟨S, hS⟩ : ∃ S, S = 2 ^ (32 - K) := ⟨_, rfl⟩
    have hS0 : 0 < S := by rw [hS]; exact Nat.pow_pos (by decide)
    have hES : A + S ≤ 4294967296 := by
      rw [← hS] at hAm
      have hdv : 4294967296 % S = 0 := by
        rw [hS, show (4294967296 : Nat) = 2 ^ K * 2 ^ (32 - K) by rw [← Nat.pow_add, show K + (32 - K) = 32 by omega]]
        exact Nat.mul_mod_left _ _
      obtain ⟨x, hx⟩ := Nat.dvd_of_mod_eq_zero hAm
      obtain ⟨y, hy⟩ := Nat.dvd_of_mod_eq_zero hdv
      have hxy : x < y := by
        rw [hx, hy] at hA32
        exact Nat.lt_of_mul_lt_mul_left hA32
      rw [hx, hy, ← Nat.mul_succ]
      exact Nat.mul_le_mul_left S hxy
    have HSZ : Hid (∀ V, Calls Try.prog 46 #[.int .i64 (K : Nat)] V fun e w' => e = .returned (.int .i64 (S : Nat)) ∧ w' = V) := fun V => by rw [hS]; exact size_any K hK32 V
    rw [← hS] at HPD
    clear hS hpf hlb hAm
    obtain ⟨v0, base, m, hm, hb, hC⟩ := h
    have hl := cuts_len g m
    have hz := cuts_z g m
    obtain ⟨hpos, hC0⟩ := cuts_zero (g := g) (m := m) (by omega)
    have HOE := hide (fun (n : Int) (hn : 0 ≤ n) => ofI_ex (C := cuts g m) (n := n) ⟨hpos, by rw [hC0]; exact hn⟩)
    have HOF := hide (fun (V : World) (y : Below w.heap.size w V) (n : Int) (n0 : 0 ≤ n) (i : Nat) (hi : OfI (cuts g m) n i) => ofD hm ((y.block b (lt_of_block hb)).trans hb) (own_below hC y) n n0 hi)
    obtain ⟨ao, cap, e1, hgo⟩ := own_shape hC
    obtain ⟨gr, e2⟩ := hgo hpos
    subst e1 e2
    have HRD : Hid (∀ V, Below w.heap.size w V → V.cell? ⟨b, 0, none⟩ = some (.slice (some ⟨gr, 0, none⟩) (cuts g m).length cap) ∧ b < V.heap.size ∧ ∀ i (hi : i < (cuts g m).length), V.cell? ⟨gr, i * 2, none⟩ = some (.int .i64 (cuts g m)[i].1) ∧ V.cell? ⟨gr, i * 2 + 1, none⟩ = some (.int .i64 (cuts g m)[i].2)) := fun V y => by
      have hb' := (y.block b (lt_of_block hb)).trans hb
      exact ⟨by rw [cell_of_row _ _ _ _ _ _ hb']; rfl, lt_of_block hb', fun i hi => ct_at (own_below hC y) hi⟩
    have HBB := hide hb
    have HZ := hide hz
    have hCl : (cuts g m).length ≤ 4294967296 := by omega
    clear hb hC hgo hC0 hz hl
    generalize cuts g m = C at *
    have HM := hide hm
    have hAM : A ≤ m := by omega
    have HLE : Hid (∀ f n, (cuts f n).length ≤ n) := cuts_len
    go_enter Try.func28, Try.ntmps28
    go_upto_region 1 with fail
    rw [← hW, ← hP]
    clear hW hP hm
    go_upto_region 5 with (first | (go_at_call 45; refine (HR.out _).mono ?_; rintro e w1 ⟨rfl, x1⟩; have X1 := hide x1; clear x1) | (go_at_call 27; refine (HL.out _).mono ?_; rintro e wz ⟨rfl, hwz⟩; have hwz := hwz.symm; subst hwz))
    have PS1 : Hid (PuS w P A K w1 (.slice none 0 0) (cuts g 0)) := ⟨World.ownsRow_nil _ _ _ _, XW.out.trans (X1.out.mono XW.out.size), (X1.out.block P hPl).trans HP.out⟩
    clear HR HL X1 XW HP p0 p1 hPl
    have f0 : IntKind.i64.wrap ((A : Int) + (S : Int)) = ((A + S : Nat) : Int) := by rw [show (A : Int) + (S : Int) = ((A + S : Nat) : Int) by simp]; simp [IntKind.wrap, IntKind.bits, IntKind.signed]; omega
    obtain ⟨E, hE⟩ : ∃ E, E = A + S := ⟨_, rfl⟩
    rw [← hE] at f0 hES
    have HE := hide hE
    clear hE
    go_cut [9] (fun sx wx => sx = .int .i64 (E : Int) ∧ Hid (Below w1.heap.size w1 wx))
    case first =>
      have HDr : Hid (Below w1.heap.size w1 w1.drew) := (Below.refl _ _).drew
      have HPR : Hid (∀ V, Below w1.heap.size w1 V → V.cell? ⟨P, 0, none⟩ = some (.int .i64 (A : Int)) ∧ V.cell? ⟨P, 1, none⟩ = some (.int .i64 (K : Int))) := fun V y => by
        have := (PS1.out.next y).box
        exact ⟨by rw [cell_of_row _ _ _ _ _ _ this]; rfl, by rw [cell_of_row _ _ _ _ _ _ this]; rfl⟩
      refine wp_region_quiet (C := fun w' => Below w1.heap.size w1 w') (by kernel_rfl) (by kernel_rfl) HDr.out ?_
      refine QW.out (l := _ :: _) ?_
      iterate 4 (refine QW.take (by rfl) ?_; apply Exists.intro; refine ⟨fun w' hw' => ?_, ?_⟩; (· (obtain ⟨g1, g2⟩ := HPR.out w' hw'; go_simp; first | done | rfl)); try simp only [Act.put, List.setIfInBounds_toArray, List.set_cons_zero, List.set_cons_succ])
      iterate 1 (refine QW.take (by rfl) ?_; apply Exists.intro; refine ⟨fun w' hw' => ?_, ?_⟩; (· (obtain ⟨g1, g2⟩ := HPR.out w' hw'; go_simp; (refine (HSZ.out _).mono ?_; rintro e w2 ⟨rfl, rfl⟩; exact ⟨rfl, hw'⟩))); try simp only [Act.put, List.setIfInBounds_toArray, List.set_cons_zero, List.set_cons_succ])
      iterate 2 (refine QW.take (by rfl) ?_; apply Exists.intro; refine ⟨fun w' hw' => ?_, ?_⟩; (· (obtain ⟨g1, g2⟩ := HPR.out w' hw'; go_simp; first | done | rfl)); try simp only [Act.put, List.setIfInBounds_toArray, List.set_cons_zero, List.set_cons_succ])
      refine QW.nil ?_
      intro w7 x7
      have X7 := hide x7
      clear x7
      try go_wp2
      go_meet
      exact ⟨rfl, X7⟩
    case rest =>
      obtain ⟨hsx, X2⟩ := hcut
      subst hsx
      have PS2 := hide (PS1.out.next X2.out)
      clear PS1 X2 HSZ f0
      go_upto_block 0 with fail
      go_cut [10, 11] (fun sv _ wx => ∃ v, sv = v ∧ Hid (PuS w P A K wx v (cuts g A)))
      case first =>
        have P0 : Hid (PuS w P A K wc (.slice none 0 0) (cuts g (bdA C m A 0))) := by unfold Hid; rw [pu_first HZ.out A hpos]; exact PS2.out
        go_wp2
        go_loopg [10, 11] (C.length + 1) (fun gh v x wr => ∃ (i : Nat) (v' : Value), v = v' ∧ x = .int .i64 (i : Nat) ∧ i ≤ C.length ∧ Hid (PuS w P A K wr v' (cuts g (bdA C m A i))) ∧ C.length - i < gh)
        case atStart => exact ⟨0, _, rfl, rfl, Nat.zero_le _, P0, by omega⟩
        case round =>
          clear P0
          obtain ⟨i, v, hv, rfl, hi1, PS, hg⟩ := hrel
          subst hv
          have HG := hide hg
          clear hg
          obtain ⟨va, vc, e1, _⟩ := own_shape PS.out.own
          subst e1
          have f1 : IntKind.i64.wrap ((i : Int) + 1) = (i : Int) + 1 := by rw [show (i : Int) + 1 = ((i + 1 : Nat) : Int) by simp]; simp [IntKind.wrap, IntKind.bits, IntKind.signed]; omega
          obtain ⟨r0, rb, rc⟩ := HRD.out wr PS.out.bel
          have HRC := hide rc
          clear rc
          have p0 : wr.cell? ⟨P, 0, none⟩ = some (.int .i64 (A : Int)) := by rw [cell_of_row _ _ _ _ _ _ PS.out.box]; rfl
          have hPr : P < wr.heap.size := lt_of_block PS.out.box
          go_upto_region 8 with fail
          go_cut [48] (fun sx wx => ∃ bo : Bool, sx = .bool bo ∧ Hid (bo = true ↔ ∃ h : i < C.length, C[i].1 < (A : Int)) ∧ Hid (Below wr.heap.size wr wx))
          case first =>
            by_cases hi : i < C.length
            · have hi' : (i : Int) < (C.length : Int) := by omega
              obtain ⟨c1, _⟩ := HRC.out i hi
              obtain ⟨z, hz⟩ : ∃ z, C[i].1 = z := ⟨_, rfl⟩
              rw [hz] at c1
              by_cases hlt : z < (A : Int)
              · have HB : Hid (true = true ↔ ∃ h : i < C.length, C[i].1 < (A : Int)) := ⟨fun _ => ⟨hi, by rw [hz]; exact hlt⟩, fun _ => rfl⟩
                have HB2 := hide (HB.out.1 rfl)
                clear HB hz
                go_quiet (fail)
                try go_wp2
                go_meet
                exact ⟨true, by first | rfl | simp [hlt], ⟨fun _ => HB2.out, fun _ => rfl⟩, below_drewN _ _ _⟩
              · have HB2 : Hid (¬ ∃ h : i < C.length, C[i].1 < (A : Int)) := fun ⟨_, h⟩ => by rw [hz] at h; exact hlt h
                clear hz
                go_quiet (fail)
                try go_wp2
                go_meet
                exact ⟨false, by first | rfl | simp [hlt], ⟨fun h => (by cases h), fun h => absurd h HB2.out⟩, below_drewN _ _ _⟩
            · have hi' : ¬ (i : Int) < (C.length : Int) := by omega
              have hd : decide ((i : Int) < (C.length : Int)) = false := decide_eq_false hi'
              have HB2 : Hid (¬ ∃ h : i < C.length, C[i].1 < (A : Int)) := fun ⟨h, _⟩ => hi h
              clear hi
              go_quiet (fail)
              try go_wp2
              go_meet
              exact ⟨false, by first | rfl | simp [hi'], ⟨fun h => (by cases h), fun h => absurd h HB2.out⟩, below_drewN _ _ _⟩
          case rest =>
            obtain ⟨bo, hbo, HBO, X3⟩ := hcut
            subst hbo
            have PS3 := hide (PS.out.next X3.out)
            clear r0 rb p0 hPr HRC PS X3
            cases bo with
            | true =>
              obtain ⟨hi, hiA⟩ := HBO.out.1 rfl
              have HST := hide (pu_step HZ.out hi hiA)
              obtain ⟨r0, rb, rc⟩ := HRD.out wc PS3.out.bel
              obtain ⟨c1, c2⟩ := rc i hi
              have HWI := hide (PS3.out.with C[i] (by have := HLE.out g (bdA C m A i); have : bdA C m A i ≤ A := Nat.min_le_right _ _; omega))
              rw [HST.out] at HWI
              generalize C[i] = c at *
              have hi' : (i : Int) < (C.length : Int) := by omega
              clear rc HST HBO hiA
              go_wp2_with (go_at_call 47; refine HWI.out.mono ?_; rintro e w4 ⟨v4, rfl, ps⟩; have PS4 := hide ps; clear ps)
              go_roundg (C.length - (i + 1) + 1)
              case measure => have := HG.out; omega
              case rel => exact ⟨i + 1, _, rfl, by first | rfl | go_num | (congr 1; omega), by omega, PS4, by omega⟩
            | false =>
              have hst : bdA C m A i = A := pu_stop hAM (by
                by_cases hi : i < C.length
                · refine .inr ⟨hi, ?_⟩
                  have : ¬ C[i].1 < (A : Int) := fun h => by have := HBO.out.2 ⟨hi, h⟩; cases this
                  omega
                · exact .inl (by omega))
              rw [hst] at PS3 ⊢
              clear HBO
              go_wp2
              go_meet
              exact ⟨_, rfl, PS3⟩
      case rest =>
        obtain ⟨v2, hv2, PS3⟩ := hcut
        subst hv2
        clear PS2
        have HWI := hide (PS3.out.with ((A : Int), l) (by have := HLE.out g A; omega))
        rw [pu_mid hS0] at HWI
        have HEE := HE.out
        rw [← HEE] at HWI
        clear HEE
        have p0 : wc.cell? ⟨P, 0, none⟩ = some (.int .i64 (A : Int)) := by rw [cell_of_row _ _ _ _ _ _ PS3.out.box]; rfl
        have hPr : P < wc.heap.size := lt_of_block PS3.out.box
        obtain ⟨va, vc, e1, _⟩ := own_shape PS3.out.own
        subst e1
        generalize (cuts g A).length = nA at *
        obtain ⟨G, hG⟩ : ∃ G, G = putF g A S l := ⟨_, rfl⟩
        rw [← hG] at HWI
        have HGG := hide hG
        clear hG
        go_upto_region 12 with (go_at_call 47; refine HWI.out.mono ?_; rintro e w4 ⟨v4, rfl, ps⟩; have PS4 := hide ps; clear ps)
        clear p0 hPr HWI PS3
        obtain ⟨va4, vc4, e4, _⟩ := own_shape PS4.out.own
        subst e4
        go_upto_if 67 with fail
        go_cut [10] (fun sv wx => ∃ v J, sv = v ∧ Hid (Behind C (E : Int) J) ∧ Hid (PuS w P A K wx v (cuts G (nxt C m J).toNat)))
        case first =>
          by_cases hEm : (E : Int) ≤ 4294967295
          · obtain ⟨i, hi⟩ := HOE.out (E : Int) (by omega)
            have HBH := hide (behind_of HZ.out hi)
            obtain ⟨hil, hpe⟩ := pu_end (l := l) HZ.out (A := A) (S := S) (i := i) (by have := HE.out; have := HM.out; omega) (by rw [← HE.out]; exact hi)
            rw [← HE.out, ← HGG.out] at hpe
            have HPE := hide hpe
            have HCO := hide (fun (V : World) (y : Below w.heap.size w V) => HOF.out V y (E : Int) (by omega) i hi)
            have hil' : (i : Int) < (C.length : Int) := by omega
            clear hpe hi
            have PSD := hide (PS4.out.next (Below.drew (Below.refl w4.heap.size w4)))
            have HWI := hide (PSD.out.with ((E : Int), C[i].2) (by have := HLE.out G E; omega))
            rw [HPE.out] at HWI
            have HQ : Hid (∀ V, Below w4.heap.size w4 V → V.cell? ⟨b, 0, none⟩ = some (.slice (some ⟨gr, 0, none⟩) C.length cap) ∧ V.cell? ⟨gr, i * 2 + 1, none⟩ = some (.int .i64 C[i].2)) := fun V y => by
              obtain ⟨r0, _, rc⟩ := HRD.out V (PS4.out.next y).bel
              exact ⟨r0, (rc i hil).2⟩
            have HCD := hide (HCO.out w4.drew PSD.out.bel)
            generalize C[i].2 = cl at *
            go_upto_region 13 with fail
            refine wp_unt (S := fun V => Below w4.heap.size w4 V) 13 (by kernel_rfl) ?_
            have HS0 : Hid (Below w4.heap.size w4 w4.drew) := (Below.refl _ _).drew
            generalize w4.drew = wd at *
            refine UntH.take (i := 0) (some 68) rfl rfl (by kernel_rfl) (by kernel_rfl) (by kernel_rfl) (by kernel_rfl) (fun _ _ _ _ h => h) (by rfl) HS0.out ?_
            apply Exists.intro
            refine ⟨fun w' hw' => ?_, ?_⟩
            · obtain ⟨q1, q2⟩ := HQ.out w' hw'
              go_simp
              first | done | rfl
            try simp only [Act.put, List.setIfInBounds_toArray, List.set_cons_zero, List.set_cons_succ]
            refine UntH.take (i := 1) (some 69) rfl rfl (by kernel_rfl) (by kernel_rfl) (by kernel_rfl) (by kernel_rfl) (fun _ _ _ _ h => h) (by rfl) HS0.out ?_
            apply Exists.intro
            refine ⟨fun w' hw' => ?_, ?_⟩
            · obtain ⟨q1, q2⟩ := HQ.out w' hw'
              go_simp
              first | done | rfl
            try simp only [Act.put, List.setIfInBounds_toArray, List.set_cons_zero, List.set_cons_succ]
            refine UntH.take (i := 2) (some 70) rfl rfl (by kernel_rfl) (by kernel_rfl) (by kernel_rfl) (by kernel_rfl) (fun _ _ _ _ h => h) (by rfl) HS0.out ?_
            apply Exists.intro
            refine ⟨fun w' hw' => ?_, ?_⟩
            · obtain ⟨q1, q2⟩ := HQ.out w' hw'
              go_simp
              first | done | rfl
            try simp only [Act.put, List.setIfInBounds_toArray, List.set_cons_zero, List.set_cons_succ]
            refine UntH.take (i := 3) (some 71) rfl rfl (by kernel_rfl) (by kernel_rfl) (by kernel_rfl) (by kernel_rfl) (fun _ _ _ _ h => h) (by rfl) HS0.out ?_
            apply Exists.intro
            refine ⟨fun w' hw' => ?_, ?_⟩
            · obtain ⟨q1, q2⟩ := HQ.out w' hw'
              go_simp
              first | done | rfl
            try simp only [Act.put, List.setIfInBounds_toArray, List.set_cons_zero, List.set_cons_succ]
            refine UntH.take (i := 4) (some 72) rfl rfl (by kernel_rfl) (by kernel_rfl) (by kernel_rfl) (by kernel_rfl) (fun _ _ _ _ h => h) (by rfl) HS0.out ?_
            apply Exists.intro
            refine ⟨fun w' hw' => ?_, ?_⟩
            · obtain ⟨q1, q2⟩ := HQ.out w' hw'
              go_simp
              first | done | rfl
            try simp only [Act.put, List.setIfInBounds_toArray, List.set_cons_zero, List.set_cons_succ]
            refine UntH.take (i := 5) (some 73) rfl rfl (by kernel_rfl) (by kernel_rfl) (by kernel_rfl) (by kernel_rfl) (fun _ _ _ _ h => h) (by rfl) HS0.out ?_
            apply Exists.intro
            refine ⟨fun w' hw' => ?_, ?_⟩
            · obtain ⟨q1, q2⟩ := HQ.out w' hw'
              go_simp
              first | done | rfl
            try simp only [Act.put, List.setIfInBounds_toArray, List.set_cons_zero, List.set_cons_succ]
            refine UntH.take (i := 6) (some 74) rfl rfl (by kernel_rfl) (by kernel_rfl) (by kernel_rfl) (by kernel_rfl) (fun _ _ _ _ h => h) (by rfl) HS0.out ?_
            apply Exists.intro
            refine ⟨fun w' hw' => ?_, ?_⟩
            · obtain ⟨q1, q2⟩ := HQ.out w' hw'
              go_simp
              first | done | rfl
            try simp only [Act.put, List.setIfInBounds_toArray, List.set_cons_zero, List.set_cons_succ]
            refine UntH.take (i := 7) (some 75) rfl rfl (by kernel_rfl) (by kernel_rfl) (by kernel_rfl) (by kernel_rfl) (fun _ _ _ _ h => h) (by rfl) HS0.out ?_
            apply Exists.intro
            refine ⟨fun w' hw' => ?_, ?_⟩
            · obtain ⟨q1, q2⟩ := HQ.out w' hw'
              go_simp
              first | done | rfl
            try simp only [Act.put, List.setIfInBounds_toArray, List.set_cons_zero, List.set_cons_succ]
            refine UntH.step (i := 8) (by kernel_rfl) rfl (fun K' hK => ?_)
            go_simp
            refine HCD.out.mono ?_
            rintro e wz ⟨rfl, hwz⟩
            have hwz := hwz.symm
            subst hwz
            refine hK _ _ HS0.out ?_
            clear hK K'
            refine UntH.take (i := 9) (some 77) rfl rfl (by kernel_rfl) (by kernel_rfl) (by kernel_rfl) (by kernel_rfl) (fun _ _ _ _ h => h) (by rfl) HS0.out ?_
            apply Exists.intro
            refine ⟨fun w' hw' => ?_, ?_⟩
            · obtain ⟨q1, q2⟩ := HQ.out w' hw'
              go_simp
              first | done | rfl
            try simp only [Act.put, List.setIfInBounds_toArray, List.set_cons_zero, List.set_cons_succ]
            refine UntH.take (i := 10) (some 78) rfl rfl (by kernel_rfl) (by kernel_rfl) (by kernel_rfl) (by kernel_rfl) (fun _ _ _ _ h => h) (by rfl) HS0.out ?_
            apply Exists.intro
            refine ⟨fun w' hw' => ?_, ?_⟩
            · obtain ⟨q1, q2⟩ := HQ.out w' hw'
              go_simp
              first | done | rfl
            try simp only [Act.put, List.setIfInBounds_toArray, List.set_cons_zero, List.set_cons_succ]
            refine UntH.take (i := 11) (some 79) rfl rfl (by kernel_rfl) (by kernel_rfl) (by kernel_rfl) (by kernel_rfl) (fun _ _ _ _ h => h) (by rfl) HS0.out ?_
            apply Exists.intro
            refine ⟨fun w' hw' => ?_, ?_⟩
            · obtain ⟨q1, q2⟩ := HQ.out w' hw'
              go_simp
              first | done | rfl
            try simp only [Act.put, List.setIfInBounds_toArray, List.set_cons_zero, List.set_cons_succ]
            refine UntH.take (i := 12) (some 80) rfl rfl (by kernel_rfl) (by kernel_rfl) (by kernel_rfl) (by kernel_rfl) (fun _ _ _ _ h => h) (by rfl) HS0.out ?_
            apply Exists.intro
            refine ⟨fun w' hw' => ?_, ?_⟩
            · obtain ⟨q1, q2⟩ := HQ.out w' hw'
              go_simp
              first | done | rfl
            try simp only [Act.put, List.setIfInBounds_toArray, List.set_cons_zero, List.set_cons_succ]
            refine UntH.stepf (i := 13) (by kernel_rfl) rfl (by kernel_rfl) (fun K' hK => ?_)
            go_simp
            refine HWI.out.mono ?_
            rintro e w6 ⟨v6, rfl, ps⟩
            have PS6 := hide ps
            clear ps
            refine hK _ _ ?_
            clear hK K'
            refine UntH.stepf (i := 14) (by kernel_rfl) rfl (by kernel_rfl) (fun K' hK => ?_)
            go_simp
            refine hK _ _ ?_
            clear hK K'
            refine UntH.end (by kernel_rfl) ?_
            try go_wp2
            go_meet
            exact ⟨_, _, rfl, HBH, PS6⟩
          · have HBH : Hid (Behind C (E : Int) C.length) := by
              have := behind_all HZ.out
              have e : ((m : Nat) : Int) = (E : Int) := by have := HM.out; omega
              rw [e] at this
              exact this
            have hnn : (nxt C m C.length).toNat = E := by rw [nxt_none (Nat.le_refl _)]; have := HM.out; omega
            have PS5 : Hid (PuS w P A K w4 (.slice va4 (cuts G E).length vc4) (cuts G (nxt C m C.length).toNat)) := by unfold Hid; rw [hnn]; exact PS4.out
            clear hnn
            go_wp2
            go_meet
            exact ⟨_, _, rfl, HBH, PS5⟩
        case rest =>
          obtain ⟨v5, J, hv5, HBH, PS5⟩ := hcut
          have hv5 := hv5.symm
          subst hv5
          clear PS4
          have P0 : Hid (PuS w P A K wc v5 (cuts G (bdB C m J 0))) := by unfold Hid; rw [pv_first]; exact PS5.out
          clear PS5
          go_wp2
          go_loopg [10, 12] (C.length + 1) (fun gh v x wr => ∃ (i : Nat) (v' : Value), v = v' ∧ x = .int .i64 (i : Nat) ∧ i ≤ C.length ∧ Hid (PuS w P A K wr v' (cuts G (bdB C m J i))) ∧ C.length - i < gh)
          case atStart => exact ⟨0, _, rfl, rfl, Nat.zero_le _, P0, by omega⟩
          case round =>
            clear P0
            obtain ⟨i, v, hv, rfl, hi1, PS, hg⟩ := hrel
            have hv := hv.symm
            subst hv
            have HG := hide hg
            clear hg
            obtain ⟨va6, vc6, e6, _⟩ := own_shape PS.out.own
            have HV6 := hide e6
            clear e6
            have f1 : IntKind.i64.wrap ((i : Int) + 1) = (i : Int) + 1 := by rw [show (i : Int) + 1 = ((i + 1 : Nat) : Int) by simp]; simp [IntKind.wrap, IntKind.bits, IntKind.signed]; omega
            obtain ⟨r0, rb, rc⟩ := HRD.out wr PS.out.bel
            by_cases hi : i < C.length
            · have hi' : (i : Int) < (C.length : Int) := by omega
              obtain ⟨c1, c2⟩ := rc i hi
              by_cases hlt : (E : Int) < C[i].1
              · have hst := pv_step (l := l) HZ.out (A := A) (S := S) (by rw [← HE.out]; exact HBH.out) hi (by rw [← HE.out]; exact hlt)
                rw [← HGG.out] at hst
                have HWI := hide (PS.out.with C[i] (by have := HLE.out G (bdB C m J i); have : bdB C m J i ≤ m := (by unfold bdB; have := HZ.out.le_m (max i J); omega); have := HM.out; omega))
                rw [hst] at HWI
                clear hst rc
                generalize C[i] = c at *
                go_wp2_with (go_at_call 47; refine HWI.out.mono ?_; rintro e w6 ⟨v6, rfl, ps⟩; have PS6 := hide ps; clear ps)
                go_roundg (C.length - (i + 1) + 1)
                case measure => have := HG.out; omega
                case rel => exact ⟨i + 1, _, rfl, by first | rfl | go_num | (congr 1; omega), by omega, PS6, by omega⟩
              · have hst := pv_skip (m := m) HBH.out hi hlt
                have PS6 : Hid (PuS w P A K wr v (cuts G (bdB C m J (i + 1)))) := by unfold Hid; rw [hst]; exact PS.out
                clear hst rc
                generalize C[i] = c at *
                go_wp2
                go_roundg (C.length - (i + 1) + 1)
                case measure => have := HG.out; omega
                case rel => exact ⟨i + 1, _, rfl, by first | rfl | go_num | (congr 1; omega), by omega, PS6, by omega⟩
            · have hi' : ¬ (i : Int) < (C.length : Int) := by omega
              obtain rfl : i = C.length := by omega
              have hst := pv_last (m := m) HBH.out
              rw [hst] at PS
              have HBR := hide ((PS.out.bel.block b (lt_of_block HBB.out)).trans HBB.out)
              have fz := frozen_of_row _ _ 0 _ _ HBR.out
              clear hst rc
              have K9 := block_setCell4 HBR.out v
              have HOB : Hid (∀ j, v.ownBlock = some j → ¬ j = b) := fun j hj e => by
                obtain ⟨cs, hc⟩ := own_ty PS.out.own j hj
                rw [e, HBR.out] at hc
                injection hc with hc
                injection hc with _ hc _
                cases hc
              have HDT : Hid (DtAt (wr.setCell ⟨b, 0, none⟩ v) b G) := ⟨v, w.heap.size, m, HM.out, K9, own_kept PS.out.own ((Kept.refl (fun j => j = b) wr).setCell (p := ⟨b, 0, none⟩) rfl v) (fun j hj e => HOB.out j hj e)⟩
              have HKP : Hid (Kept (fun j => j = b) w (wr.setCell ⟨b, 0, none⟩ v)) := Kept.setCell (F := fun j => j = b) (Kept.of_below PS.out.bel) (p := ⟨b, 0, none⟩) rfl v
              have e6 := HV6.out
              have HGD := HGG.out
              rw [← HGD] at HPD
              clear HGD K9 HV6
              generalize (cuts G (bdB C m J C.length)).length = n6 at *
              subst e6
              go_wp2
              go_ret
              exact HPD.out _ _ rfl HDT.out HKP.out
  · have HPD : Hid (∀ e w', e = .returned (.int .i64 1) → Below w.heap.size w w' → PuD w b g a k l e w') := fun e w' h1 h2 => ⟨fun _ => ⟨h1, h2⟩, fun h => absurd h hpl⟩
    clear h
    by_cases hpf : Pfx a k
    · have hlb : ¬ Lab l := fun h => hpl ⟨hpf, h⟩
      rw [decide_eq_true hpf] at HR
      rw [decide_eq_false hlb] at HL
      clear hpl hlb hpf
      go_enter Try.func28, Try.ntmps28
      go_upto_region 1 with fail
      rw [← hW, ← hP]
      clear hW hP
      go_wp2_with (first | (go_at_call 45; refine (HR.out _).mono ?_; rintro e w1 ⟨rfl, x1⟩; have X1 := hide x1; clear x1) | (go_at_call 27; refine (HL.out _).mono ?_; rintro e wz ⟨rfl, hwz⟩; have hwz := hwz.symm; subst hwz))
      go_ret
      exact HPD.out _ _ rfl (XW.out.trans (X1.out.mono XW.out.size))
    · rw [decide_eq_false hpf] at HR
      clear hpl hpf
      generalize decide (Lab l) = bl at *
      go_enter Try.func28, Try.ntmps28
      go_upto_region 1 with fail
      rw [← hW, ← hP]
      clear hW hP
      go_wp2_with (first | (go_at_call 45; refine (HR.out _).mono ?_; rintro e w1 ⟨rfl, x1⟩; have X1 := hide x1; clear x1) | (go_at_call 27; refine (HL.out _).mono ?_; rintro e wz ⟨rfl, hwz⟩; have hwz := hwz.symm; subst hwz))
      go_ret
      exact HPD.out _ _ rfl (XW.out.trans (X1.out.mono XW.out.size))
end Go.Proofs.Ytnfdjbaafiifnaa
