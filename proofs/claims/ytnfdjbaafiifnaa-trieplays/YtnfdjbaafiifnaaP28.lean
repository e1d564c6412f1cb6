/-
  The document's Right of rows, walked. Condition: a list is no longer than a process can hold.
-/
import Derived.Test.YtnfdjbaafiifnaaP27
namespace Go.Proofs.Ytnfdjbaafiifnaa
open Go.RowKit Go.Lib

theorem al_pfx {a k : Nat} {l : Int} (h : Pfx (a : Int) (k : Int)) : Al ((a, k), l) := by
  obtain ⟨h1, h2, h3, h4, h5⟩ := h
  simp only [Int.toNat_natCast] at h5
  have e : 2 ^ k * 2 ^ (32 - k) = 4294967296 := by rw [← Nat.pow_add, show k + (32 - k) = 32 by omega]
  obtain ⟨q, hq⟩ := Nat.dvd_of_mod_eq_zero h5
  have hp : 0 < 2 ^ (32 - k) := Nat.pow_pos (by decide)
  refine ⟨show k ≤ 32 by omega, ?_, h5⟩
  show a + 2 ^ (32 - k) ≤ 4294967296
  have hlt : a < 2 ^ (32 - k) * 2 ^ k := by rw [Nat.mul_comm, e]; omega
  rw [hq] at hlt ⊢
  have := Nat.lt_of_mul_lt_mul_left hlt
  rw [← Nat.mul_succ, ← e, Nat.mul_comm (2 ^ k)]
  exact Nat.mul_le_mul_left _ this
/-- What Right tells of rows. -/
def RgIs (L : List RZ) (e : Ending) : Prop := ∃ b : Bool, e = .returned (.bool b) ∧ (b = true ↔ ∃ R, L = zr R ∧ RtR none 0 R)
set_option maxRecDepth 100000 in
set_option maxHeartbeats 4000000 in
theorem refRightL_any (ao : Option Addr) (cap : Nat) (L : List RZ) (w : World) (hl : L.length ≤ 140737488351232) (hat : RwAt w ao L) :
    Calls Try.prog 53 #[.slice ao L.length cap] w fun e w' => RgIs L e ∧ Below w.heap.size w w' := by
  have HAT := hide hat
  clear hat
  go_enter Try.func53, Try.ntmps53
  go_wp2
  go_loopw [3, 4] (fun nv x wr => ∃ k : Nat, k ≤ L.length ∧ x = .int .i64 k ∧ ∃ (R : List Rw) (nx : Nat), nv = .int .i64 nx ∧ Hid (R.length = k) ∧ Hid (RgP L R nx) ∧ nx ≤ 4294967296 ∧ Hid (Below w.heap.size w wr)) (fun _ x _ => L.length - (RowKit.intOf x).toNat)
  case atStart => exact ⟨0, Nat.zero_le _, rfl, [], 0, rfl, rfl, RgP.nil L, by omega, Below.refl _ _⟩
  case round =>
    obtain ⟨k, hk, rfl, R, nx, rfl, HRL, HP, hnx, X⟩ := hrel
    rename World => wr
    by_cases hlt : k < L.length
    · have hlt' : (k : Int) < (L.length : Int) := by omega
      rcases HAT.out with h | ⟨b, off, rfl, hb, hc⟩
      · rw [h] at hlt; simp at hlt
      have HCC := hide hc
      obtain ⟨p1, p2, p3⟩ := hc k hlt
      have HGZ : Hid (L.getD k ((0, 0), 0) = L[k]) := by unfold Hid; simp [List.getD_eq_getElem?_getD, hlt]
      have HBAD : Hid ((∀ r : Rw, L[k] = (((r.1.1 : Int), (r.1.2 : Int)), r.2) → ¬ (Al r ∧ Lab r.2 ∧ r.1.1 = nx ∧ ¬ Hlv R.getLast? r)) → ¬ ∃ R, L = zr R ∧ RtR none 0 R) := fun hb => by
        have e := HRL.out
        subst e
        exact HP.out.bad hlt hb
      have r1 := (X.out.cell (p := ⟨b, off + k * 3, none⟩) hb).trans p1
      have r2 := (X.out.cell (p := ⟨b, off + k * 3 + 1, none⟩) hb).trans p2
      have r3 := (X.out.cell (p := ⟨b, off + k * 3 + 2, none⟩) hb).trans p3
      rw [HGZ.out] at r1 r2 r3
      have HLK : Hid (∃ z, z = L[k]) := ⟨_, rfl⟩
      generalize hzz : L[k] = z at *
      have HZZ := hide hzz
      obtain ⟨⟨za, zk⟩, zl⟩ := z
      simp only at r1 r2 r3
      clear hc p1 p2 p3 hzz
      have HNO : (∀ r : Rw, ((za, zk), zl) = (((r.1.1 : Int), (r.1.2 : Int)), r.2) → ¬ (Al r ∧ Lab r.2 ∧ r.1.1 = nx ∧ ¬ Hlv R.getLast? r)) → RgIs L (.returned (.bool false)) := fun h => ⟨false, rfl, fun h' => (by cases h'), fun h' => absurd h' (HBAD.out h)⟩
      have HNO' := hide HNO
      have hrr := fun W => refRight_any za zk W
      have hll := fun W => refIsLabel_any zl W
      have hX1 : Below wr.heap.size wr (wr.alloc (.cells #[.int .i64 za, .int .i64 zk] 42)) := al (Below.refl _ _) _
      have hP1 := heap_alloc_new wr (.cells #[.int .i64 za, .int .i64 zk] 42)
      have HRR := hide hrr
      have HLL := hide hll
      clear HNO hrr hll
      go_wp2_with (fail)
      generalize wr.alloc (.cells #[.int .i64 za, .int .i64 zk] 42) = W1 at *
      have hbw : b < wr.heap.size := Nat.lt_of_lt_of_le hb X.out.size
      refine (HRR.out _).mono ?_
      rintro e w2 ⟨rfl, x2⟩
      have X2 := hide (bt X.out (bt hX1 x2 (Nat.le_refl _)) (Nat.le_refl _))
      have s1 := ((bt hX1 x2 (Nat.le_refl _)).cell (p := ⟨b, off + k * 3, none⟩) hbw).trans r1
      have s2 := ((bt hX1 x2 (Nat.le_refl _)).cell (p := ⟨b, off + k * 3 + 1, none⟩) hbw).trans r2
      have s3 := ((bt hX1 x2 (Nat.le_refl _)).cell (p := ⟨b, off + k * 3 + 2, none⟩) hbw).trans r3
      have B2 := hide ((x2.block wr.heap.size (lt_of_block hP1)).trans hP1)
      clear r1 r2 r3 hX1 hP1 x2
      go_wp2_with (fail)
      refine (HLL.out _).mono ?_
      rintro e w3 ⟨rfl, hw3⟩
      subst hw3
      rename World => w3
      have t1 : w3.cell? ⟨wr.heap.size, 0, none⟩ = some (.int .i64 za) := by rw [cell_of_row w3 wr.heap.size 0 _ _ _ B2.out]; rfl
      have t2 : w3.cell? ⟨wr.heap.size, 1, none⟩ = some (.int .i64 zk) := by rw [cell_of_row w3 wr.heap.size 1 _ _ _ B2.out]; rfl
      by_cases hpf : Pfx za zk
      · rw [decide_eq_true hpf]
        by_cases hlb : Lab zl
        · rw [decide_eq_true hlb]
          by_cases hza : za = (nx : Int)
          · subst hza
            go_wp2_with (fail)
            have hpl := lt_of_block B2.out
            have hbl : b < w3.heap.size := Nat.lt_of_lt_of_le hb X2.out.size
            generalize wr.heap.size = pb at *
            have HD : Hid (Below w3.heap.size w3 w3.drew) := (Below.refl _ _).drew
            obtain ⟨zk, rfl⟩ : ∃ n : Nat, zk = n := ⟨zk.toNat, by have := hpf.1; omega⟩
            have hz32 : zk ≤ 32 := by have := hpf.2.1; omega
            obtain ⟨S, HS⟩ : ∃ S, Hid (S = 2 ^ (32 - zk)) := ⟨2 ^ (32 - zk), show _ = _ from rfl⟩
            have HAL := hide (al_pfx (l := zl) hpf)
            have hszS : ∀ W, Calls Try.prog 46 #[.int .i64 (zk : Nat)] W fun e w' => e = .returned (.int .i64 (S : Nat)) ∧ w' = W := fun W => by rw [HS.out]; exact size_any zk hz32 W
            have hSn : nx + S ≤ 4294967296 := by have := HAL.out.2.1; rw [HS.out]; exact this
            have HSTEP : Hid (¬ Hlv R.getLast? ((nx, zk), zl) → RgP L (R ++ [((nx, zk), zl)]) (nx + S)) := fun hn => by
              have e := HRL.out
              subst e
              rw [HS.out]
              exact HP.out.step hlt HZZ.out ⟨HAL.out, hlb, rfl, hn⟩
            by_cases hk0 : k = 0
            · have hk0' : ¬ 0 < k := by omega
              have hd0 : decide ((0 : Int) < (k : Int)) = false := decide_eq_false (by omega)
              have HH : Hid (¬ Hlv R.getLast? ((nx, zk), zl)) := fun ⟨s, h, _⟩ => by
                have : R = [] := List.eq_nil_of_length_eq_zero (HRL.out.trans hk0)
                rw [this] at h
                cases h
              clear hk0
              refine wp_region_quiet (C := fun w' => Below w3.heap.size w3 w') (by kernel_rfl) (by kernel_rfl) HD.out ?_
              refine QW.out (l := _ :: _) ?_
              iterate 3 (refine QW.take (by rfl) ?_; apply Exists.intro; refine ⟨fun w' hw' => ?_, ?_⟩; (· (have g1 := (hw'.cell (p := ⟨pb, 0, none⟩) hpl).trans t1; have g2 := (hw'.cell (p := ⟨pb, 1, none⟩) hpl).trans t2; have g3 := (hw'.cell (p := ⟨b, off + k * 3 + 2, none⟩) hbl).trans s3; go_simp; first | done | ((try simp only [hd0]); first | done | rfl))); try simp only [Act.put, List.setIfInBounds_toArray, List.set_cons_zero, List.set_cons_succ])
              iterate 3 (refine QW.skip (by rfl) ?_; try simp only [Act.put, List.setIfInBounds_toArray, List.set_cons_zero, List.set_cons_succ])
              iterate 2 (refine QW.take (by rfl) ?_; apply Exists.intro; refine ⟨fun w' hw' => ?_, ?_⟩; (· (have g1 := (hw'.cell (p := ⟨pb, 0, none⟩) hpl).trans t1; have g2 := (hw'.cell (p := ⟨pb, 1, none⟩) hpl).trans t2; have g3 := (hw'.cell (p := ⟨b, off + k * 3 + 2, none⟩) hbl).trans s3; go_simp; first | done | ((try simp only [hd0]); first | done | rfl))); try simp only [Act.put, List.setIfInBounds_toArray, List.set_cons_zero, List.set_cons_succ])
              iterate 10 (refine QW.skip (by rfl) ?_; try simp only [Act.put, List.setIfInBounds_toArray, List.set_cons_zero, List.set_cons_succ])
              iterate 2 (refine QW.take (by rfl) ?_; apply Exists.intro; refine ⟨fun w' hw' => ?_, ?_⟩; (· (have g1 := (hw'.cell (p := ⟨pb, 0, none⟩) hpl).trans t1; have g2 := (hw'.cell (p := ⟨pb, 1, none⟩) hpl).trans t2; have g3 := (hw'.cell (p := ⟨b, off + k * 3 + 2, none⟩) hbl).trans s3; go_simp; first | done | ((try simp only [hd0]); first | done | rfl))); try simp only [Act.put, List.setIfInBounds_toArray, List.set_cons_zero, List.set_cons_succ])
              iterate 12 (refine QW.skip (by rfl) ?_; try simp only [Act.put, List.setIfInBounds_toArray, List.set_cons_zero, List.set_cons_succ])
              iterate 2 (refine QW.take (by rfl) ?_; apply Exists.intro; refine ⟨fun w' hw' => ?_, ?_⟩; (· (have g1 := (hw'.cell (p := ⟨pb, 0, none⟩) hpl).trans t1; have g2 := (hw'.cell (p := ⟨pb, 1, none⟩) hpl).trans t2; have g3 := (hw'.cell (p := ⟨b, off + k * 3 + 2, none⟩) hbl).trans s3; go_simp; first | done | ((try simp only [hd0]); first | done | rfl))); try simp only [Act.put, List.setIfInBounds_toArray, List.set_cons_zero, List.set_cons_succ])
              iterate 8 (refine QW.skip (by rfl) ?_; try simp only [Act.put, List.setIfInBounds_toArray, List.set_cons_zero, List.set_cons_succ])
              iterate 1 (refine QW.take (by rfl) ?_; apply Exists.intro; refine ⟨fun w' hw' => ?_, ?_⟩; (· (have g1 := (hw'.cell (p := ⟨pb, 0, none⟩) hpl).trans t1; have g2 := (hw'.cell (p := ⟨pb, 1, none⟩) hpl).trans t2; have g3 := (hw'.cell (p := ⟨b, off + k * 3 + 2, none⟩) hbl).trans s3; go_simp; first | done | ((try simp only [hd0]); first | done | rfl))); try simp only [Act.put, List.setIfInBounds_toArray, List.set_cons_zero, List.set_cons_succ])
              refine QW.nil ?_
              intro w12 x12
              have X12 := hide (bt X2.out x12 (Nat.le_refl _))
              have v1 := (x12.cell (p := ⟨pb, 0, none⟩) hpl).trans t1
              have v2 := (x12.cell (p := ⟨pb, 1, none⟩) hpl).trans t2
              
              clear s1 s2 s3 t1 t2 x12
              have HST := hide (HSTEP.out HH.out)
              go_wp2_with (fail)
              go_quiet (exact Calls.quiet_of_same (hszS _))
              go_wp2
              go_roundw
              case rel => exact ⟨k + 1, by omega, by go_num, R ++ [((nx, zk), zl)], nx + S, by go_num, by unfold Hid; rw [List.length_append, HRL.out]; rfl, HST, by omega, bt X12.out (below_drewN _ _ _) (Nat.le_refl _)⟩
              case measure => simp [RowKit.intOf]; omega
            · obtain ⟨i, him⟩ : ∃ i, Hid (k = i + 1) := ⟨k - 1, show k = k - 1 + 1 by omega⟩
              have hiR : i < R.length := by have := him.out; have := HRL.out; omega
              have hiL : i < L.length := by have := him.out; omega
              have HLA : Hid (R.getLast? = some R[i]) := by
                unfold Hid
                rw [List.getLast?_eq_getElem?, show R.length - 1 = i by have := him.out; have := HRL.out; omega]
                exact List.getElem?_eq_getElem hiR
              have HLI : Hid (L[i] = (((R[i].1.1 : Int), (R[i].1.2 : Int)), R[i].2)) := by
                have := congrArg (fun l => l[i]?) HP.out.pre
                show L[i] = (((R[i].1.1 : Int), (R[i].1.2 : Int)), R[i].2)
                simpa [zr, List.getElem?_take, hiR, hiL] using this
              obtain ⟨_, y2, y3⟩ := HCC.out i hiL
              rw [show L.getD i ((0, 0), 0) = L[i] by simp [List.getD_eq_getElem?_getD, hiL], HLI.out] at y2 y3
              have u2 := (X2.out.cell (p := ⟨b, off + i * 3 + 1, none⟩) hb).trans y2
              have u3 := (X2.out.cell (p := ⟨b, off + i * 3 + 2, none⟩) hb).trans y3
              generalize R[i] = q at *
              obtain ⟨⟨qa, qk⟩, ql⟩ := q
              simp only at u2 u3
              have hkp : 0 < k := by omega
              have hd0 : decide ((0 : Int) < (k : Int)) = true := decide_eq_true (by omega)
              have hw3 : (k : Int) - 1 = (i : Int) := by have := him.out; omega
              have hw5 : IntKind.i64.wrap (i : Int) = (i : Int) := by have := him.out; simp [IntKind.wrap, IntKind.bits, IntKind.signed]; omega
              have hil : (i : Int) < (L.length : Int) := by omega
              have hi0 : (0 : Int) ≤ (i : Int) := by omega
              clear y2 y3 hk0 HLI
              by_cases hzp : 0 < zk
              · have hdz : decide ((0 : Int) < (zk : Int)) = true := decide_eq_true (by omega)
                by_cases e2 : qk = zk
                · by_cases e1 : ql = zl
                  · have e2b : ((qk : Int) == (zk : Int)) = true := by simp; omega
                    have e1b : (ql == zl) = true := by simpa using e1
                    have hS0 : ¬ (S : Int) = 0 := by have := Nat.pow_pos (n := 32 - zk) (show 0 < 2 by decide); have := HS.out; omega
                    have hq1 : (nx : Int).tdiv S = ((nx / S : Nat) : Int) := by rw [Int.tdiv_eq_ediv_of_nonneg (by omega)]; simp
                    have hq3 : (nx : Int) / S = ((nx / S : Nat) : Int) := by simp
                    obtain ⟨v, hv⟩ : ∃ v, Hid (v = nx / S) := ⟨nx / S, show _ = _ from rfl⟩
                    rw [← hv.out] at hq1 hq3
                    have hS0n : ¬ S = 0 := by omega
                    have hvl : v ≤ 4294967296 := by rw [hv.out]; exact Nat.le_trans (Nat.div_le_self _ _) hnx
                    have hwv : IntKind.i64.wrap (v : Int) = (v : Int) := by simp [IntKind.wrap, IntKind.bits, IntKind.signed]; omega
                    by_cases hpr : v % 2 = 1
                    · have hq2 : (v : Int).tmod 2 = 1 := by rw [Int.tmod_eq_emod_of_nonneg (by omega)]; omega
                      have hq4 : (v : Int) % 2 = 1 := by omega
                      have HF := hide (HNO'.out fun r he h => h.2.2.2 (by
                        simp only [Prod.mk.injEq] at he
                        obtain ⟨⟨⟨ra, rk⟩, rl⟩, hr⟩ : ∃ r' : Rw, r = r' := ⟨r, rfl⟩
                        subst hr
                        simp only at he
                        obtain ⟨⟨h1, h2⟩, h3⟩ := he
                        have h1 : nx = ra := by omega
                        have h2 : zk = rk := by omega
                        subst h1 h2 h3
                        exact ⟨((qa, qk), ql), HLA.out, hzp, e2, e1, by show nx / 2 ^ (32 - zk) % 2 = 1; rw [← HS.out, ← hv.out]; exact hpr⟩))
                      clear hpr
                      refine wp_region_quiet (C := fun w' => Below w3.heap.size w3 w') (by kernel_rfl) (by kernel_rfl) HD.out ?_
                      refine QW.out (l := _ :: _) ?_
                      iterate 38 (refine QW.take (by rfl) ?_; apply Exists.intro; refine ⟨fun w' hw' => ?_, ?_⟩; (· (have g1 := (hw'.cell (p := ⟨pb, 0, none⟩) hpl).trans t1; have g2 := (hw'.cell (p := ⟨pb, 1, none⟩) hpl).trans t2; have g3 := (hw'.cell (p := ⟨b, off + k * 3 + 2, none⟩) hbl).trans s3; have g4 := (hw'.cell (p := ⟨b, off + i * 3 + 1, none⟩) hbl).trans u2; have g5 := (hw'.cell (p := ⟨b, off + i * 3 + 2, none⟩) hbl).trans u3; go_simp; first | done | ((try simp only [hd0, hdz, hw3, hw5, e2b, e1b]); first | done | rfl))); try simp only [Act.put, List.setIfInBounds_toArray, List.set_cons_zero, List.set_cons_succ])
                      iterate 1 (refine QW.take (by rfl) ?_; apply Exists.intro; refine ⟨fun w' hw' => ?_, ?_⟩; (· (have g1 := (hw'.cell (p := ⟨pb, 0, none⟩) hpl).trans t1; have g2 := (hw'.cell (p := ⟨pb, 1, none⟩) hpl).trans t2; have g3 := (hw'.cell (p := ⟨b, off + k * 3 + 2, none⟩) hbl).trans s3; have g4 := (hw'.cell (p := ⟨b, off + i * 3 + 1, none⟩) hbl).trans u2; have g5 := (hw'.cell (p := ⟨b, off + i * 3 + 2, none⟩) hbl).trans u3; go_simp; (refine (hszS _).mono ?_; rintro e w2 ⟨rfl, hw2⟩; subst hw2; exact ⟨rfl, hw'⟩))); try simp only [Act.put, List.setIfInBounds_toArray, List.set_cons_zero, List.set_cons_succ])
                      iterate 4 (refine QW.take (by rfl) ?_; apply Exists.intro; refine ⟨fun w' hw' => ?_, ?_⟩; (· (have g1 := (hw'.cell (p := ⟨pb, 0, none⟩) hpl).trans t1; have g2 := (hw'.cell (p := ⟨pb, 1, none⟩) hpl).trans t2; have g3 := (hw'.cell (p := ⟨b, off + k * 3 + 2, none⟩) hbl).trans s3; have g4 := (hw'.cell (p := ⟨b, off + i * 3 + 1, none⟩) hbl).trans u2; have g5 := (hw'.cell (p := ⟨b, off + i * 3 + 2, none⟩) hbl).trans u3; go_simp; first | done | ((try simp only [hd0, hdz, hw3, hw5, e2b, e1b, hS0n, if_false, hwv, hq1, hq2, hq3, hq4]); first | done | rfl))); try simp only [Act.put, List.setIfInBounds_toArray, List.set_cons_zero, List.set_cons_succ])
                      refine QW.nil ?_
                      intro w12 x12
                      have X12 := hide (bt X2.out x12 (Nat.le_refl _))
                      have v1 := (x12.cell (p := ⟨pb, 0, none⟩) hpl).trans t1
                      have v2 := (x12.cell (p := ⟨pb, 1, none⟩) hpl).trans t2
                      
                      clear s1 s2 s3 t1 t2 x12
                      go_wp2
                      go_ret
                      exact ⟨HF.out, X12.out⟩
                    · have hq2 : (v : Int).tmod 2 = 0 := by rw [Int.tmod_eq_emod_of_nonneg (by omega)]; omega
                      have hq4 : (v : Int) % 2 = 0 := by omega
                      have HH : Hid (¬ Hlv R.getLast? ((nx, zk), zl)) := fun ⟨s, h, _, _, _, h5⟩ => hpr (by rw [hv.out, HS.out]; exact h5)
                      clear hpr
                      refine wp_region_quiet (C := fun w' => Below w3.heap.size w3 w') (by kernel_rfl) (by kernel_rfl) HD.out ?_
                      refine QW.out (l := _ :: _) ?_
                      iterate 38 (refine QW.take (by rfl) ?_; apply Exists.intro; refine ⟨fun w' hw' => ?_, ?_⟩; (· (have g1 := (hw'.cell (p := ⟨pb, 0, none⟩) hpl).trans t1; have g2 := (hw'.cell (p := ⟨pb, 1, none⟩) hpl).trans t2; have g3 := (hw'.cell (p := ⟨b, off + k * 3 + 2, none⟩) hbl).trans s3; have g4 := (hw'.cell (p := ⟨b, off + i * 3 + 1, none⟩) hbl).trans u2; have g5 := (hw'.cell (p := ⟨b, off + i * 3 + 2, none⟩) hbl).trans u3; go_simp; first | done | ((try simp only [hd0, hdz, hw3, hw5, e2b, e1b]); first | done | rfl))); try simp only [Act.put, List.setIfInBounds_toArray, List.set_cons_zero, List.set_cons_succ])
                      iterate 1 (refine QW.take (by rfl) ?_; apply Exists.intro; refine ⟨fun w' hw' => ?_, ?_⟩; (· (have g1 := (hw'.cell (p := ⟨pb, 0, none⟩) hpl).trans t1; have g2 := (hw'.cell (p := ⟨pb, 1, none⟩) hpl).trans t2; have g3 := (hw'.cell (p := ⟨b, off + k * 3 + 2, none⟩) hbl).trans s3; have g4 := (hw'.cell (p := ⟨b, off + i * 3 + 1, none⟩) hbl).trans u2; have g5 := (hw'.cell (p := ⟨b, off + i * 3 + 2, none⟩) hbl).trans u3; go_simp; (refine (hszS _).mono ?_; rintro e w2 ⟨rfl, hw2⟩; subst hw2; exact ⟨rfl, hw'⟩))); try simp only [Act.put, List.setIfInBounds_toArray, List.set_cons_zero, List.set_cons_succ])
                      iterate 4 (refine QW.take (by rfl) ?_; apply Exists.intro; refine ⟨fun w' hw' => ?_, ?_⟩; (· (have g1 := (hw'.cell (p := ⟨pb, 0, none⟩) hpl).trans t1; have g2 := (hw'.cell (p := ⟨pb, 1, none⟩) hpl).trans t2; have g3 := (hw'.cell (p := ⟨b, off + k * 3 + 2, none⟩) hbl).trans s3; have g4 := (hw'.cell (p := ⟨b, off + i * 3 + 1, none⟩) hbl).trans u2; have g5 := (hw'.cell (p := ⟨b, off + i * 3 + 2, none⟩) hbl).trans u3; go_simp; first | done | ((try simp only [hd0, hdz, hw3, hw5, e2b, e1b, hS0n, if_false, hwv, hq1, hq2, hq3, hq4]); first | done | rfl))); try simp only [Act.put, List.setIfInBounds_toArray, List.set_cons_zero, List.set_cons_succ])
                      refine QW.nil ?_
                      intro w12 x12
                      have X12 := hide (bt X2.out x12 (Nat.le_refl _))
                      have v1 := (x12.cell (p := ⟨pb, 0, none⟩) hpl).trans t1
                      have v2 := (x12.cell (p := ⟨pb, 1, none⟩) hpl).trans t2
                      
                      clear s1 s2 s3 t1 t2 x12
                      have HST := hide (HSTEP.out HH.out)
                      go_wp2_with (fail)
                      go_quiet (exact Calls.quiet_of_same (hszS _))
                      go_wp2
                      go_roundw
                      case rel => exact ⟨k + 1, by omega, by go_num, R ++ [((nx, zk), zl)], nx + S, by go_num, by unfold Hid; rw [List.length_append, HRL.out]; rfl, HST, by omega, bt X12.out (below_drewN _ _ _) (Nat.le_refl _)⟩
                      case measure => simp [RowKit.intOf]; omega
                  · have e2b : ((qk : Int) == (zk : Int)) = true := by simp; omega
                    have e1b : (ql == zl) = false := by simpa using e1
                    have HH : Hid (¬ Hlv R.getLast? ((nx, zk), zl)) := fun ⟨s, h, _, _, h3, _⟩ => by rw [HLA.out] at h; injection h with h; subst h; exact e1 h3
                    refine wp_region_quiet (C := fun w' => Below w3.heap.size w3 w') (by kernel_rfl) (by kernel_rfl) HD.out ?_
                    refine QW.out (l := _ :: _) ?_
                    iterate 34 (refine QW.take (by rfl) ?_; apply Exists.intro; refine ⟨fun w' hw' => ?_, ?_⟩; (· (have g1 := (hw'.cell (p := ⟨pb, 0, none⟩) hpl).trans t1; have g2 := (hw'.cell (p := ⟨pb, 1, none⟩) hpl).trans t2; have g3 := (hw'.cell (p := ⟨b, off + k * 3 + 2, none⟩) hbl).trans s3; have g4 := (hw'.cell (p := ⟨b, off + i * 3 + 1, none⟩) hbl).trans u2; have g5 := (hw'.cell (p := ⟨b, off + i * 3 + 2, none⟩) hbl).trans u3; go_simp; first | done | ((try simp only [hd0, hdz, hw3, hw5, e2b, e1b]); first | done | rfl))); try simp only [Act.put, List.setIfInBounds_toArray, List.set_cons_zero, List.set_cons_succ])
                    iterate 8 (refine QW.skip (by rfl) ?_; try simp only [Act.put, List.setIfInBounds_toArray, List.set_cons_zero, List.set_cons_succ])
                    iterate 1 (refine QW.take (by rfl) ?_; apply Exists.intro; refine ⟨fun w' hw' => ?_, ?_⟩; (· (have g1 := (hw'.cell (p := ⟨pb, 0, none⟩) hpl).trans t1; have g2 := (hw'.cell (p := ⟨pb, 1, none⟩) hpl).trans t2; have g3 := (hw'.cell (p := ⟨b, off + k * 3 + 2, none⟩) hbl).trans s3; have g4 := (hw'.cell (p := ⟨b, off + i * 3 + 1, none⟩) hbl).trans u2; have g5 := (hw'.cell (p := ⟨b, off + i * 3 + 2, none⟩) hbl).trans u3; go_simp; first | done | ((try simp only [hd0, hdz, hw3, hw5, e1b]); first | done | rfl))); try simp only [Act.put, List.setIfInBounds_toArray, List.set_cons_zero, List.set_cons_succ])
                    refine QW.nil ?_
                    intro w12 x12
                    have X12 := hide (bt X2.out x12 (Nat.le_refl _))
                    have v1 := (x12.cell (p := ⟨pb, 0, none⟩) hpl).trans t1
                    have v2 := (x12.cell (p := ⟨pb, 1, none⟩) hpl).trans t2
                    
                    clear s1 s2 s3 t1 t2 x12
                    have HST := hide (HSTEP.out HH.out)
                    go_wp2_with (fail)
                    go_quiet (exact Calls.quiet_of_same (hszS _))
                    go_wp2
                    go_roundw
                    case rel => exact ⟨k + 1, by omega, by go_num, R ++ [((nx, zk), zl)], nx + S, by go_num, by unfold Hid; rw [List.length_append, HRL.out]; rfl, HST, by omega, bt X12.out (below_drewN _ _ _) (Nat.le_refl _)⟩
                    case measure => simp [RowKit.intOf]; omega
                · have e2b : ((qk : Int) == (zk : Int)) = false := by simp; omega
                  have HH : Hid (¬ Hlv R.getLast? ((nx, zk), zl)) := fun ⟨s, h, _, h3, _, _⟩ => by rw [HLA.out] at h; injection h with h; subst h; exact e2 h3
                  refine wp_region_quiet (C := fun w' => Below w3.heap.size w3 w') (by kernel_rfl) (by kernel_rfl) HD.out ?_
                  refine QW.out (l := _ :: _) ?_
                  iterate 20 (refine QW.take (by rfl) ?_; apply Exists.intro; refine ⟨fun w' hw' => ?_, ?_⟩; (· (have g1 := (hw'.cell (p := ⟨pb, 0, none⟩) hpl).trans t1; have g2 := (hw'.cell (p := ⟨pb, 1, none⟩) hpl).trans t2; have g3 := (hw'.cell (p := ⟨b, off + k * 3 + 2, none⟩) hbl).trans s3; have g4 := (hw'.cell (p := ⟨b, off + i * 3 + 1, none⟩) hbl).trans u2; have g5 := (hw'.cell (p := ⟨b, off + i * 3 + 2, none⟩) hbl).trans u3; go_simp; first | done | ((try simp only [hd0, hdz, hw3, hw5, e2b]); first | done | rfl))); try simp only [Act.put, List.setIfInBounds_toArray, List.set_cons_zero, List.set_cons_succ])
                  iterate 12 (refine QW.skip (by rfl) ?_; try simp only [Act.put, List.setIfInBounds_toArray, List.set_cons_zero, List.set_cons_succ])
                  iterate 2 (refine QW.take (by rfl) ?_; apply Exists.intro; refine ⟨fun w' hw' => ?_, ?_⟩; (· (have g1 := (hw'.cell (p := ⟨pb, 0, none⟩) hpl).trans t1; have g2 := (hw'.cell (p := ⟨pb, 1, none⟩) hpl).trans t2; have g3 := (hw'.cell (p := ⟨b, off + k * 3 + 2, none⟩) hbl).trans s3; have g4 := (hw'.cell (p := ⟨b, off + i * 3 + 1, none⟩) hbl).trans u2; have g5 := (hw'.cell (p := ⟨b, off + i * 3 + 2, none⟩) hbl).trans u3; go_simp; first | done | ((try simp only [hd0, hdz, hw3, hw5, e2b]); first | done | rfl))); try simp only [Act.put, List.setIfInBounds_toArray, List.set_cons_zero, List.set_cons_succ])
                  iterate 8 (refine QW.skip (by rfl) ?_; try simp only [Act.put, List.setIfInBounds_toArray, List.set_cons_zero, List.set_cons_succ])
                  iterate 1 (refine QW.take (by rfl) ?_; apply Exists.intro; refine ⟨fun w' hw' => ?_, ?_⟩; (· (have g1 := (hw'.cell (p := ⟨pb, 0, none⟩) hpl).trans t1; have g2 := (hw'.cell (p := ⟨pb, 1, none⟩) hpl).trans t2; have g3 := (hw'.cell (p := ⟨b, off + k * 3 + 2, none⟩) hbl).trans s3; have g4 := (hw'.cell (p := ⟨b, off + i * 3 + 1, none⟩) hbl).trans u2; have g5 := (hw'.cell (p := ⟨b, off + i * 3 + 2, none⟩) hbl).trans u3; go_simp; first | done | ((try simp only [hd0, hdz, hw3, hw5]); first | done | rfl))); try simp only [Act.put, List.setIfInBounds_toArray, List.set_cons_zero, List.set_cons_succ])
                  refine QW.nil ?_
                  intro w12 x12
                  have X12 := hide (bt X2.out x12 (Nat.le_refl _))
                  have v1 := (x12.cell (p := ⟨pb, 0, none⟩) hpl).trans t1
                  have v2 := (x12.cell (p := ⟨pb, 1, none⟩) hpl).trans t2
                  
                  clear s1 s2 s3 t1 t2 x12
                  have HST := hide (HSTEP.out HH.out)
                  go_wp2_with (fail)
                  go_quiet (exact Calls.quiet_of_same (hszS _))
                  go_wp2
                  go_roundw
                  case rel => exact ⟨k + 1, by omega, by go_num, R ++ [((nx, zk), zl)], nx + S, by go_num, by unfold Hid; rw [List.length_append, HRL.out]; rfl, HST, by omega, bt X12.out (below_drewN _ _ _) (Nat.le_refl _)⟩
                  case measure => simp [RowKit.intOf]; omega
              · have hdz : decide ((0 : Int) < (zk : Int)) = false := decide_eq_false (by omega)
                have HH : Hid (¬ Hlv R.getLast? ((nx, zk), zl)) := fun ⟨s, _, h2, _⟩ => hzp h2
                refine wp_region_quiet (C := fun w' => Below w3.heap.size w3 w') (by kernel_rfl) (by kernel_rfl) HD.out ?_
                refine QW.out (l := _ :: _) ?_
                iterate 8 (refine QW.take (by rfl) ?_; apply Exists.intro; refine ⟨fun w' hw' => ?_, ?_⟩; (· (have g1 := (hw'.cell (p := ⟨pb, 0, none⟩) hpl).trans t1; have g2 := (hw'.cell (p := ⟨pb, 1, none⟩) hpl).trans t2; have g3 := (hw'.cell (p := ⟨b, off + k * 3 + 2, none⟩) hbl).trans s3; have g4 := (hw'.cell (p := ⟨b, off + i * 3 + 1, none⟩) hbl).trans u2; have g5 := (hw'.cell (p := ⟨b, off + i * 3 + 2, none⟩) hbl).trans u3; go_simp; first | done | ((try simp only [hd0, hdz, hw3, hw5]); first | done | rfl))); try simp only [Act.put, List.setIfInBounds_toArray, List.set_cons_zero, List.set_cons_succ])
                iterate 10 (refine QW.skip (by rfl) ?_; try simp only [Act.put, List.setIfInBounds_toArray, List.set_cons_zero, List.set_cons_succ])
                iterate 2 (refine QW.take (by rfl) ?_; apply Exists.intro; refine ⟨fun w' hw' => ?_, ?_⟩; (· (have g1 := (hw'.cell (p := ⟨pb, 0, none⟩) hpl).trans t1; have g2 := (hw'.cell (p := ⟨pb, 1, none⟩) hpl).trans t2; have g3 := (hw'.cell (p := ⟨b, off + k * 3 + 2, none⟩) hbl).trans s3; have g4 := (hw'.cell (p := ⟨b, off + i * 3 + 1, none⟩) hbl).trans u2; have g5 := (hw'.cell (p := ⟨b, off + i * 3 + 2, none⟩) hbl).trans u3; go_simp; first | done | ((try simp only [hd0, hdz, hw3, hw5]); first | done | rfl))); try simp only [Act.put, List.setIfInBounds_toArray, List.set_cons_zero, List.set_cons_succ])
                iterate 12 (refine QW.skip (by rfl) ?_; try simp only [Act.put, List.setIfInBounds_toArray, List.set_cons_zero, List.set_cons_succ])
                iterate 2 (refine QW.take (by rfl) ?_; apply Exists.intro; refine ⟨fun w' hw' => ?_, ?_⟩; (· (have g1 := (hw'.cell (p := ⟨pb, 0, none⟩) hpl).trans t1; have g2 := (hw'.cell (p := ⟨pb, 1, none⟩) hpl).trans t2; have g3 := (hw'.cell (p := ⟨b, off + k * 3 + 2, none⟩) hbl).trans s3; have g4 := (hw'.cell (p := ⟨b, off + i * 3 + 1, none⟩) hbl).trans u2; have g5 := (hw'.cell (p := ⟨b, off + i * 3 + 2, none⟩) hbl).trans u3; go_simp; first | done | ((try simp only [hd0, hdz, hw3, hw5]); first | done | rfl))); try simp only [Act.put, List.setIfInBounds_toArray, List.set_cons_zero, List.set_cons_succ])
                iterate 8 (refine QW.skip (by rfl) ?_; try simp only [Act.put, List.setIfInBounds_toArray, List.set_cons_zero, List.set_cons_succ])
                iterate 1 (refine QW.take (by rfl) ?_; apply Exists.intro; refine ⟨fun w' hw' => ?_, ?_⟩; (· (have g1 := (hw'.cell (p := ⟨pb, 0, none⟩) hpl).trans t1; have g2 := (hw'.cell (p := ⟨pb, 1, none⟩) hpl).trans t2; have g3 := (hw'.cell (p := ⟨b, off + k * 3 + 2, none⟩) hbl).trans s3; have g4 := (hw'.cell (p := ⟨b, off + i * 3 + 1, none⟩) hbl).trans u2; have g5 := (hw'.cell (p := ⟨b, off + i * 3 + 2, none⟩) hbl).trans u3; go_simp; first | done | ((try simp only [hd0, hdz, hw3, hw5]); first | done | rfl))); try simp only [Act.put, List.setIfInBounds_toArray, List.set_cons_zero, List.set_cons_succ])
                refine QW.nil ?_
                intro w12 x12
                have X12 := hide (bt X2.out x12 (Nat.le_refl _))
                have v1 := (x12.cell (p := ⟨pb, 0, none⟩) hpl).trans t1
                have v2 := (x12.cell (p := ⟨pb, 1, none⟩) hpl).trans t2
                
                clear s1 s2 s3 t1 t2 x12
                have HST := hide (HSTEP.out HH.out)
                go_wp2_with (fail)
                go_quiet (exact Calls.quiet_of_same (hszS _))
                go_wp2
                go_roundw
                case rel => exact ⟨k + 1, by omega, by go_num, R ++ [((nx, zk), zl)], nx + S, by go_num, by unfold Hid; rw [List.length_append, HRL.out]; rfl, HST, by omega, bt X12.out (below_drewN _ _ _) (Nat.le_refl _)⟩
                case measure => simp [RowKit.intOf]; omega
          · have HF := hide (HNO'.out fun r he h => hza (by simp only [Prod.mk.injEq] at he; rw [he.1.1, h.2.2.1]))
            go_wp2
            go_ret
            exact ⟨HF.out, X2.out⟩
        · rw [decide_eq_false hlb]
          have HF := hide (HNO'.out fun r he h => hlb (by simp only [Prod.mk.injEq] at he; rw [he.2]; exact h.2.1))
          go_wp2
          go_ret
          exact ⟨HF.out, X2.out⟩
      · rw [decide_eq_false hpf]
        have HF := hide (HNO'.out fun r he h => hpf (by simp only [Prod.mk.injEq] at he; rw [he.1.1, he.1.2]; exact pfx_al h.1))
        go_wp2
        go_ret
        exact ⟨HF.out, X2.out⟩
    · have hkl : k = L.length := by omega
      have hnl : ¬ (k : Int) < (L.length : Int) := by omega
      have HW := hide (HP.out.whole (HRL.out.trans hkl))
      by_cases hfin : nx = 4294967296
      · have hf : (nx : Int) = 4294967296 := by omega
        have HI : Hid (RgIs L (.returned (.bool true))) := ⟨true, rfl, fun _ => HW.out.2 hfin, fun _ => rfl⟩
        clear hfin hkl
        go_wp2
        go_ret
        exact ⟨HI.out, X.out⟩
      · have hf : ¬ (nx : Int) = 4294967296 := by omega
        have HI : Hid (RgIs L (.returned (.bool ((nx : Int) == 4294967296)))) := ⟨false, by rw [show ((nx : Int) == 4294967296) = false by simpa using hf], fun h => (by cases h), fun h => absurd (HW.out.1 h) hfin⟩
        clear hfin hkl
        go_wp2
        go_ret
        exact ⟨HI.out, X.out⟩
end Go.Proofs.Ytnfdjbaafiifnaa
