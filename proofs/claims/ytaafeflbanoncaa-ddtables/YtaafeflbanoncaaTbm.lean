/-
  DdTables by its contract. Condition: a script no longer than a process can hold.
-/
import Derived.Test.YtaafeflbanoncaaTbs
import Derived.Test.YtaafeflbanoncaaArg
namespace Go.Proofs.Ytaafeflbanoncaa
open Go.RowKit Go.Lib Go.Maps

/-- The sizes that are taken. -/
def sz3 (A : List Int) (k : Nat) : List Int := (A.take k).map fun c => 1 + (pkZ c 3 : Int)
theorem sz3_length {A : List Int} {k : Nat} (h : k ≤ A.length) : (sz3 A k).length = k := by simp [sz3]; omega
theorem sz3_snoc {A : List Int} {k : Nat} (h : k < A.length) : sz3 A (k + 1) = sz3 A k ++ [1 + (pkZ (A.getD k 0) 3 : Int)] := by
  unfold sz3
  rw [take_snoc h, List.map_append]
  rfl
theorem sz3_mem {A : List Int} {k : Nat} : ∀ s ∈ sz3 A k, 1 ≤ s ∧ s ≤ 3 := fun s hs => by
  obtain ⟨c, _, rfl⟩ := List.mem_map.1 hs
  have := pkZ_lt c (n := 3) (by decide)
  omega
theorem prd_snoc : ∀ (S : List Int) (n : Int), prd (S ++ [n]) = prd S * n.toNat
  | [], n => by simp [prd]
  | s :: t, n => by
    rw [List.cons_append]
    unfold prd
    rw [prd_snoc t n, Nat.mul_assoc]
theorem prd_le : ∀ (S : List Int), (∀ s ∈ S, s ≤ 3) → prd S ≤ 3 ^ S.length
  | [], _ => by simp [prd]
  | s :: t, h => by
    have h1 := prd_le t (fun x hx => h x (by simp [hx]))
    have h2 := h s (by simp)
    unfold prd
    rw [List.length_cons, Nat.pow_succ, Nat.mul_comm]
    exact Nat.mul_le_mul h1 (by omega)
theorem sz3_prd {A : List Int} {k : Nat} (h : k ≤ A.length) (h4 : k ≤ 4) : prd (sz3 A k) ≤ 81 := by
  have h1 := prd_le (sz3 A k) (fun s hs => (sz3_mem s hs).2)
  rw [sz3_length h] at h1
  have : 3 ^ k ≤ 3 ^ 4 := Nat.pow_le_pow_right (by decide) h4
  omega
theorem sz3_ok {A : List Int} {k : Nat} (h : k ≤ A.length) (h0 : 0 < k) (h4 : k ≤ 4) : SzOk (sz3 A k) := ⟨by rw [sz3_length h]; omega, by rw [sz3_length h]; omega, fun s hs => by have := sz3_mem s hs; omega⟩
theorem rowR_zero (S : List Int) (N : List Nd) : rowR S N 0 = List.replicate (prd S) false := by
  unfold rowR rowP
  simp only [sayR_zero]
  rw [List.map_const', List.length_range]
theorem rowR_one (S : List Int) (N : List Nd) : rowR S N 1 = List.replicate (prd S) true := by
  unfold rowR rowP
  simp only [sayR_one]
  rw [List.map_const', List.length_range]
theorem BBk.made (V : World) (L : List Bool) : BBk (V.alloc (.cells (bC L).toArray 4)) V.heap.size L := ⟨_, heap_alloc_new V _, fun i hi => by rw [List.getElem?_toArray, bC_get L hi]⟩
theorem TI.start {w : World} {B tb a : Nat} {S : List Int} {M : Int} {P : Nat → Prop} {sb sc : Nat} {m : Nat} (hb : TBk w tb S sb sc (prd S) (.slice none 0 0) (.slice none 0 0)) (hB : B ≤ tb) (hca : CA w a S M [] m P) (hpb : ∀ k, P k → B ≤ k) (h1 : ¬ P tb) (h2 : ¬ P sb) : TI w B tb a S M [] P [] [] sb sc (.slice none 0 0) (.slice none 0 0) [] :=
  ⟨⟨hb, World.ownsRow_nil _ _ _ _, World.ownsRow_nil _ _ _ _, rfl, (fun i hi => by cases hi), hB, h1, h2, (fun k hk => by cases hk), (fun k hk => by cases hk)⟩, hca.tight, hpb, rfl, (fun i hi => by cases hi)⟩
set_option maxRecDepth 100000 in
set_option maxHeartbeats 8000000 in
theorem tables_any (a0 so : Option Addr) (cap0 cap1 : Nat) (A : List Int) (T : List OpY) (w : World) (hT : T.length ≤ 2800000000000) (zA : ZAt w a0 A) (fA : ∀ k ∈ A, Fit k) (sT : OpAt w so T) :
    Calls Try.prog 4 #[.slice a0 A.length cap0, .slice so T.length cap1] w fun e w' => e = .returned (.bool true) ∧ Below w.heap.size w w' := by
  obtain ⟨i3, hi3, hz30, hz31, hz32⟩ := info_parts Try.info3
  obtain ⟨i4, hi4, hz40, hz41, hz42⟩ := info_parts Try.info4
  have KN := hide (known_any w)
  have HZ := hide zA
  have HFA := hide fA
  have HST := hide sT
  clear zA fA sT
  go_enter Try.func4, Try.ntmps4
  go_upto_region 2 with (go_at_call 6; refine KN.out.mono ?_; rintro e w1 ⟨rfl, x1⟩; have X1 := hide x1; clear x1)
  clear KN
  have y2 : Below w1.heap.size w1 (w1.alloc (.cells #[.slice none 0 0, .int .i64 1, .slice none 0 0, .slice none 0 0] 49)) := al (Below.refl _ _) _
  have X2 := hide (bt X1.out y2 (Nat.le_refl _))
  have nb : (w1.alloc (.cells #[.slice none 0 0, .int .i64 1, .slice none 0 0, .slice none 0 0] 49)).heap[w1.heap.size]? = some (.cells #[.slice none 0 0, .int .i64 1, .slice none 0 0, .slice none 0 0] 49 (0, 0)) := heap_alloc_new w1 _
  have NB := hide nb
  have BT : Hid (w.heap.size ≤ w1.heap.size) := X1.out.size
  clear y2 nb
  go_upto_block 0 with fail
  generalize w1.alloc (.cells #[.slice none 0 0, .int .i64 1, .slice none 0 0, .slice none 0 0] 49) = w2 at *
  generalize w1.heap.size = tb at *
  go_cut [] (fun wx => ∃ k : Nat, k ≤ A.length ∧ k ≤ 4 ∧ (k = A.length ∨ k = 4) ∧ ∃ sv, Hid (wx.heap[tb]? = some (.cells #[sv, .int .i64 (prd (sz3 A k) : Int), .slice none 0 0, .slice none 0 0] 49 (0, 0)) ∧ wx.ownsRow w.heap.size 3 1 sv k (zC (sz3 A k)) ∧ Below w.heap.size w wx))
  case first =>
    go_wp2
    go_loopw [7] (fun x wr => ∃ k : Nat, k ≤ A.length ∧ k ≤ 4 ∧ x = .int .i64 k ∧ ∃ sv, Hid (wr.heap[tb]? = some (.cells #[sv, .int .i64 (prd (sz3 A k) : Int), .slice none 0 0, .slice none 0 0] 49 (0, 0)) ∧ wr.ownsRow w.heap.size 3 1 sv k (zC (sz3 A k)) ∧ Below w.heap.size w wr)) (fun x _ => 5 - (RowKit.intOf x).toNat)
    case atStart => exact ⟨0, Nat.zero_le _, by omega, rfl, .slice none 0 0, NB.out, World.ownsRow_nil _ _ _ _, X2.out⟩
    case round =>
      obtain ⟨k, hk, hk4, rfl, sv, I⟩ := hrel
      obtain ⟨sa, sc, rfl, _⟩ := own_shape I.out.2.1
      have t0 : wr.cell? ⟨tb, 0, none⟩ = some (.slice sa k sc) := by rw [cell_of_row wr tb _ _ _ _ I.out.1]; rfl
      have t1 : wr.cell? ⟨tb, 1, none⟩ = some (.int .i64 (prd (sz3 A k) : Int)) := by rw [cell_of_row wr tb _ _ _ _ I.out.1]; rfl
      by_cases hlt : k < A.length
      · have hlt' : (k : Int) < (A.length : Int) := by omega
        by_cases h4 : k < 4
        · have h4' : (k : Int) < 4 := by omega
          obtain ⟨bz, oz, rfl, hbz, gz⟩ := HZ.out.get hlt
          have gz' := (I.out.2.2.cell (p := ⟨bz, oz + k, none⟩) hbz).trans gz
          have PK := hide (pick_any (A.getD k 0) 3 (HFA.out _ (getD_mem hlt)) (by decide) (by decide) wr)
          have hpk := pkZ_lt (A.getD k 0) (n := 3) (by decide)
          have HSN := hide (sz3_snoc hlt)
          have hpr := sz3_prd hk hk4
          have HPS := hide (prd_snoc (sz3 A k) (1 + (pkZ (A.getD k 0) 3 : Int)))
          rw [← HSN.out] at HPS
          generalize A.getD k 0 = ak at *
          generalize pkZ ak 3 = pk at *
          clear gz
          go_upto_region 7 with (go_at_call 15; refine PK.out.mono ?_; rintro e w3 ⟨rfl, hw3⟩; have hw4 := hw3.symm; clear hw3; subst hw4)
          clear PK gz'
          have y5 : Below wr.heap.size wr (wr.alloc (.cells #[.int .i64 (1 + (pk : Int))] 3)) := al (Below.refl _ _) _
          have Y5 := hide y5
          have tf0 := frozen_of_row wr tb 0 _ _ I.out.1
          clear y5
          go_upto_region 8 with (at_builtin; refine wpList_append_view rfl (.tmp 45) (.tmp 47) 22 rfl w.heap.size 3 i3 (.int .i64 0) 1 8 Try.underlying22 hi3 hz30 hz31 hz32 rfl (by decide) _ k (zC (sz3 A k)) rfl (own_below I.out.2.1 Y5.out) ⟨wr.heap.size, 0, none⟩ 1 1 [.int .i64 (1 + (pk : Int))] rfl rfl (one_new wr _ _) (by simp [Value.oneCell']) (by decide) (by unfold maxLen; omega) (by omega) (Nat.le_trans I.out.2.2.size Y5.out.size) ?_; intro v4 w4 h1 h2; obtain ⟨ao4, cap4, hv4, _⟩ := own_shape h1; subst hv4; have O4 := hide h1; have A4 := hide h2; have K4 := hide ((Kept.of_below (F := fun b => (Value.slice sa k sc).ownBlock = some b) Y5.out).trans (appK h2)); have b4 := (K4.out.block tb (lt_of_block I.out.1) (fun e => by obtain ⟨cs, hc⟩ := own_tyk I.out.2.1 e; exact ty_ne hc I.out.1 (by decide) rfl)).trans I.out.1; have c4 : w4.cell? ⟨tb, 0, none⟩ = some (.slice sa k sc) := (by rw [cell_of_row w4 tb _ _ _ _ b4]; rfl); have f4 := frozen_of_row w4 tb 0 _ _ b4; have B4 := hide b4; clear h1 h2 b4)
          have X4 : Hid (Below w.heap.size w w4) := I.out.2.2.trans (K4.out.below I.out.2.2.size (fun b hb => (World.ownsRow.lt I.out.2.1 b hb).1))
          have vt : ∀ b, (Value.slice ao4 (k + 1) cap4).ownBlock = some b → ¬ b = tb := fun b hb => by
            obtain ⟨cs, hc⟩ := own_tyk O4.out hb
            exact ty_ne hc B4.out (by decide)
          have k5 : Kept (fun b => b = tb) w4 (w4.setCell ⟨tb, 0, none⟩ (.slice ao4 (k + 1) cap4)) := (Kept.refl (fun b => b = tb) w4).setCell (p := ⟨tb, 0, none⟩) rfl _
          have B5 : Hid ((w4.setCell ⟨tb, 0, none⟩ (.slice ao4 (k + 1) cap4)).heap[tb]? = some (.cells #[.slice ao4 (k + 1) cap4, .int .i64 (prd (sz3 A k) : Int), .slice none 0 0, .slice none 0 0] 49 (0, 0))) := by unfold Hid; rw [block_setCell B4.out 0]; rfl
          have O5 := hide (own_kept O4.out k5 vt)
          have X5 := hide (bl X4.out BT.out 0 (.slice ao4 (k + 1) cap4))
          clear k5 c4 f4 tf0 t0 t1 K4 A4
          generalize w4.setCell ⟨tb, 0, none⟩ (.slice ao4 (k + 1) cap4) = w5 at *
          have u1 : w5.cell? ⟨tb, 1, none⟩ = some (.int .i64 (prd (sz3 A k) : Int)) := by rw [cell_of_row w5 tb _ _ _ _ B5.out]; rfl
          have f1 := frozen_of_row w5 tb 1 _ _ B5.out
          have hps := HPS.out
          have hB5 := B5.out
          generalize prd (sz3 A k) = pn at *
          obtain ⟨m, hm⟩ : ∃ m, prd (sz3 A (k + 1)) = m := ⟨_, rfl⟩
          have hpk1 : (1 + (pk : Int)).toNat = pk + 1 := by omega
          rw [hm, hpk1] at hps
          have hm3 : m ≤ 300 := by rw [hps]; exact Nat.le_trans (Nat.mul_le_mul hpr (show pk + 1 ≤ 3 by omega)) (by decide)
          have hcast : (pn : Int) * (1 + (pk : Int)) = (m : Int) := by rw [hps, Int.natCast_mul]; congr 1; omega
          have hmul : IntKind.i64.wrap ((pn : Int) * (1 + (pk : Int))) = (m : Int) := by
            rw [hcast]
            simp [IntKind.wrap, IntKind.bits, IntKind.signed]
            omega
          have hmul2 : wrap64 ((pn : Int) * (1 + (pk : Int))) = (m : Int) := by
            rw [hcast]
            unfold wrap64
            omega
          have k6 : Kept (fun b => b = tb) w5 (w5.setCell ⟨tb, 1, none⟩ (.int .i64 (m : Int))) := (Kept.refl (fun b => b = tb) w5).setCell (p := ⟨tb, 1, none⟩) rfl _
          have NX : Hid ((w5.setCell ⟨tb, 1, none⟩ (.int .i64 (m : Int))).heap[tb]? = some (.cells #[.slice ao4 (k + 1) cap4, .int .i64 (prd (sz3 A (k + 1)) : Int), .slice none 0 0, .slice none 0 0] 49 (0, 0)) ∧ (w5.setCell ⟨tb, 1, none⟩ (.int .i64 (m : Int))).ownsRow w.heap.size 3 1 (.slice ao4 (k + 1) cap4) (k + 1) (zC (sz3 A (k + 1))) ∧ Below w.heap.size w (w5.setCell ⟨tb, 1, none⟩ (.int .i64 (m : Int)))) := by
            refine ⟨by rw [block_setCell hB5 1, hm]; rfl, ?_, bl X5.out BT.out _ _⟩
            rw [HSN.out, zC_snoc]
            exact own_kept O5.out k6 vt
          clear hps hm hcast k6 vt hB5 HPS
          go_wp2
          go_roundw
          case rel => exact ⟨k + 1, by omega, by omega, by go_num, _, NX⟩
          case measure => simp [RowKit.intOf]; omega
        · have h4' : ¬ (k : Int) < 4 := by omega
          go_wp2
          go_meet
          exact ⟨k, hk, hk4, .inr (by omega), _, I⟩
      · have hlt' : ¬ (k : Int) < (A.length : Int) := by omega
        go_wp2
        go_meet
        exact ⟨k, hk, hk4, .inl (by omega), _, I⟩
  obtain ⟨k, hk, hk4, _, sv, I⟩ := hcut
  obtain ⟨w3, hw3⟩ : ∃ w3, w3 = wc := ⟨_, rfl⟩
  subst hw3
  clear NB X2 HFA HZ
  by_cases hk0 : k = 0
  · subst hk0
    obtain ⟨sa, sc, rfl, _⟩ := own_shape I.out.2.1
    have t0 : w3.cell? ⟨tb, 0, none⟩ = some (.slice sa 0 sc) := by rw [cell_of_row w3 tb _ _ _ _ I.out.1]; rfl
    go_wp2
    go_ret
    exact ⟨rfl, I.out.2.2⟩
  have HOKS := hide (sz3_ok hk (by omega) hk4)
  have hpr := sz3_prd hk hk4
  have hSl := sz3_length hk
  clear hk
  generalize sz3 A k = S at *
  subst hSl
  obtain ⟨sb, sc, hsv, hsb, zS⟩ := own_blk I.out.2.1 (by omega)
  subst hsv
  have TB3 : Hid (TBk w3 tb S sb sc (prd S) (.slice none 0 0) (.slice none 0 0)) := ⟨I.out.1, zS⟩
  have X3 := hide I.out.2.2
  have HNW := hide (new_any (some ⟨sb, 0, none⟩) sc S 8192 w3 (by omega) zS.at)
  obtain ⟨t0, t1, t2, t3⟩ := TB3.out.cells
  have hne : ((S.length : Int) == 0) = false := beq_eq_false_iff_ne.2 (by omega)
  clear I zS
  go_upto_region 14 with (go_at_call 7; refine HNW.out.mono ?_; rintro e w4 ⟨⟨_, _, _, a, P, rfl, h1, h2⟩ | ⟨h1, _⟩, hb⟩; rotate_left; (exact absurd ⟨HOKS.out, by decide, by decide⟩ h1); have CA4 := hide h1; have PP4 := hide h2; have X4 := hide hb; clear h1 h2 hb)
  clear HNW t0 t1 t2 t3
  have X04 := hide (bt X3.out X4.out (Nat.le_refl _))
  have TI4 : Hid (TI w4 w.heap.size tb a S 8192 [] P [] [] sb sc (.slice none 0 0) (.slice none 0 0) []) := by
    have htb := lt_of_block TB3.out.1
    have hsb2 := TB3.out.2.lt
    exact TI.start (TB3.out.below X4.out) BT.out CA4.out (fun b hb => Nat.le_trans X3.out.size (PP4.out b hb)) (fun hp => by have := PP4.out _ hp; omega) (fun hp => by have := PP4.out _ hp; omega)
  obtain ⟨t0, t1, t2, t3⟩ := TI4.out.tb.blk.cells
  have hmkb := make_bools (prd S) (prd S : Int) rfl (by omega)
  have y5 : Below w4.heap.size w4 (w4.alloc (.cells (bC (List.replicate (prd S) false)).toArray 4)) := al (Below.refl _ _) _
  have BB5 : Hid (BBk (w4.alloc (.cells (bC (List.replicate (prd S) false)).toArray 4)) w4.heap.size (rowR S [] 0)) := by unfold Hid; rw [rowR_zero]; exact BBk.made w4 _
  have X05 := hide (bt X04.out y5 (Nat.le_refl _))
  have TI5 := hide (TI4.out.below y5)
  have NPN : Hid (¬ P w4.heap.size) := fun hp => by have := TI4.out.ca.plt hp; omega
  clear y5
  go_upto_region 15 with fail
  generalize w4.alloc (.cells (bC (List.replicate (prd S) false)).toArray 4) = w5 at *
  generalize w4.heap.size = nb at *
  clear t0 t1 t2 t3 hmkb TI4
  go_upto_block 2 with fail
  go_cut [12] (fun v wx => ∃ g c, v = .slice (some ⟨g, 0, none⟩) (prd S) c ∧ Hid (BBk wx g (rowR S [] 1) ∧ w5.heap.size ≤ g) ∧ Hid (Below w5.heap.size w5 wx))
  case first =>
    go_wp2
    go_loopw [12, 13] (fun v x wr => ∃ n : Nat, n ≤ prd S ∧ x = .int .i64 n ∧ Hid (wr.ownsRow w5.heap.size 4 1 v n (bC (List.replicate n true))) ∧ Hid (Below w5.heap.size w5 wr)) (fun _ x _ => prd S - (RowKit.intOf x).toNat)
    case atStart => exact ⟨0, Nat.zero_le _, rfl, World.ownsRow_nil _ _ _ _, Below.refl _ _⟩
    case round =>
      obtain ⟨n, hn, rfl, HO, HQ⟩ := hrel
      obtain ⟨la, lc, rfl, _⟩ := own_shape HO.out
      obtain ⟨t0, t1, t2, t3⟩ := (TI5.out.below HQ.out).tb.blk.cells
      by_cases hlt : n < prd S
      · have hlt' : (n : Int) < (prd S : Int) := by omega
        have y6 : Below wr.heap.size wr (wr.alloc (.cells #[.bool true] 4)) := al (Below.refl _ _) _
        have Y6 := hide y6
        have HO6 := hide (own_below HO.out y6)
        clear y6
        go_wp2_with (at_builtin; refine wpList_append_view rfl (.tmp 98) (.tmp 99) 36 rfl w5.heap.size 4 i4 (.bool false) 1 1 Try.underlying36 hi4 hz40 hz41 hz42 rfl (by decide) _ n _ rfl HO6.out ⟨wr.heap.size, 0, none⟩ 1 1 [.bool true] rfl rfl (one_new wr _ _) (by simp [Value.oneCell']) (by decide) (by unfold maxLen; omega) (by omega) (Nat.le_trans HQ.out.size Y6.out.size) ?_; intro v4 w9 h1 h2; obtain ⟨ao4, cap4, hv4, _⟩ := own_shape h1; subst hv4; have O9 := hide h1; have X9 := hide (Below.trans (bt HQ.out Y6.out (Nat.le_refl _)) ((appK h2).below (Nat.le_trans HQ.out.size Y6.out.size) (fun x hx => (World.ownsRow.lt HO6.out x hx).1))); clear h1 h2)
        go_roundw
        case rel => exact ⟨n + 1, by omega, by go_num, by unfold Hid; rw [List.replicate_succ', bC_snoc]; exact O9.out, X9⟩
        case measure => simp [RowKit.intOf]; omega
      · have hlt' : ¬ (n : Int) < (prd S : Int) := by omega
        obtain rfl : n = prd S := by omega
        have hpp : 0 < prd S := by
          have := idx_lt S _ (pnL_ptl S HOKS.out.pos 0)
          omega
        have ho := HO.out
        obtain ⟨L, hL⟩ : ∃ L, L = List.replicate (prd S) true := ⟨_, rfl⟩
        rw [← hL] at ho
        have hll : L.length = prd S := by rw [hL]; simp
        rw [← hll] at ho
        obtain ⟨g, c9, hv, hg, hb⟩ := own_bbk ho (by omega)
        rw [hll] at hv
        have HV := hide hv
        have HB9 : Hid (BBk wr g (rowR S [] 1) ∧ w5.heap.size ≤ g) := ⟨by rw [rowR_one, ← hL]; exact hb, hg⟩
        clear ho hv hg hb hll hL
        go_wp2
        go_meet
        exact ⟨g, c9, HV.out, HB9, HQ⟩
  obtain ⟨gy, cy, rfl, HBY, X6⟩ := hcut
  obtain ⟨w6, hw6⟩ : ∃ w6, w6 = wc := ⟨_, rfl⟩
  subst hw6
  have TI6 := hide (TI5.out.below X6.out)
  have X06 := hide (bt X05.out X6.out (Nat.le_refl _))
  have hB6 : w.heap.size ≤ w6.heap.size := X06.out.size
  have AD0 := hide (add_ok (f := 0) (rb := nb) (rc := prd S) TI6.out hB6 (by simp) (by omega) ⟨by omega, by simp⟩ (BB5.out.below X6.out) NPN.out)
  go_upto_region 21 with (go_at_call 16; refine AD0.out.mono ?_; rintro e w7 ⟨rfl, fv7, sv7, V7, h7, b7, q7⟩; have TI7 := hide h7; have B7 := hide b7; have Q7 := hide q7; clear h7 b7 q7)
  clear AD0
  have X07 := hide (X06.out.trans B7.out)
  have hB7 : w.heap.size ≤ w7.heap.size := X07.out.size
  have BY7 : Hid (BBk w7 gy (rowR S [] 1)) := Q7.out _ _ HBY.out.1
  have NPY : Hid (¬ P gy) := fun hp => by have h1 := TI5.out.ca.plt hp; have h2 := HBY.out.2; omega
  have AD1 := hide (add_ok (f := 1) (rb := gy) (rc := cy) TI7.out hB7 (by simp) (by omega) ⟨by omega, by simp⟩ BY7.out NPY.out)
  go_upto_block 4 with (go_at_call 16; refine AD1.out.mono ?_; rintro e w8 ⟨rfl, fv8, sv8, V8, h8, b8, _⟩; have TI8 := hide h8; have B8 := hide b8; clear h8 b8)
  clear AD1
  have X08 := hide (X07.out.trans B8.out)
  clear TI5 TI6 TI7 X05 X06 X07 B7 B8 BB5 HBY BY7 NPY NPN TB3 X3 X04 X4 CA4 PP4 X6
  go_cut [] (fun wx => Hid (Below w.heap.size w wx))
  case first =>
    go_wp2
    go_loopw [16] (fun x wr => ∃ i : Nat, i ≤ T.length ∧ x = .int .i64 i ∧ ∃ N' P' F' R' fv' sv' V', Hid (TI wr w.heap.size tb a S 8192 N' P' F' R' sb sc fv' sv' V' ∧ R'.length = i + 2) ∧ Hid (Below w.heap.size w wr)) (fun x _ => T.length - (RowKit.intOf x).toNat)
    case atStart => exact ⟨0, Nat.zero_le _, rfl, [], P, _, _, fv8, sv8, V8, ⟨TI8.out, rfl⟩, X08⟩
    case round =>
      obtain ⟨i, hi, rfl, N', P', F', R', fv', sv', V', I, HQ⟩ := hrel
      by_cases hlt : i < T.length
      · have hlt' : (i : Int) < (T.length : Int) := by omega
        rcases HST.out with hT0 | ⟨bt0, ot0, rfl, hbt, hTT⟩
        · rw [hT0] at hlt; cases hlt
        obtain ⟨hcs, hok⟩ := hTT i hlt
        obtain ⟨o, ho⟩ : ∃ o, T[i] = o := ⟨_, rfl⟩
        rw [ho] at hcs hok
        clear ho hTT
        have hcw : ∀ j u, (opA o.z)[j]? = some u → wr.cell? ⟨bt0, ot0 + i * 9 + j, none⟩ = some u := fun j u hu => (HQ.out.cell (p := ⟨bt0, ot0 + i * 9 + j, none⟩) hbt).trans (hcs j u hu)
        have p0 : wr.cell? ⟨bt0, ot0 + i * 9, none⟩ = some (.bool o.z.near) := hcw 0 _ rfl
        have p1 := hcw 1 (.int .i64 o.z.what) rfl
        have p2 := hcw 2 (.int .i64 o.z.f) rfl
        have p3 := hcw 3 (.int .i64 o.z.g) rfl
        have p4 := hcw 4 (.int .i64 o.z.h) rfl
        have p5 := hcw 5 (.int .i64 o.z.l) rfl
        have p6 := hcw 6 (.int .i64 o.z.c) rfl
        have p7 := hcw 7 (.slice o.z.ia o.z.il o.z.ic) rfl
        have p8 := hcw 8 (.slice o.z.ca o.z.cl o.z.cc) rfl
        have HOK := hide hok
        clear hcw hcs hok
        go_upto_region 28 with fail
        have y1 : Below wr.heap.size wr (wr.alloc (.cells #[.bool o.z.near, .int .i64 o.z.what, .int .i64 o.z.f, .int .i64 o.z.g, .int .i64 o.z.h, .int .i64 o.z.l, .int .i64 o.z.c, .slice o.z.ia o.z.il o.z.ic, .slice o.z.ca o.z.cl o.z.cc] 38)) := al (Below.refl _ _) _
        have NBX : Hid (OpBx (wr.alloc (.cells #[.bool o.z.near, .int .i64 o.z.what, .int .i64 o.z.f, .int .i64 o.z.g, .int .i64 o.z.h, .int .i64 o.z.l, .int .i64 o.z.c, .slice o.z.ia o.z.il o.z.ic, .slice o.z.ca o.z.cl o.z.cc] 38)) wr.heap.size o.z) := heap_alloc_new wr _
        have X10 := hide (bt HQ.out y1 (Nat.le_refl _))
        have TI10 := hide (I.out.1.below y1)
        have Y1 := hide y1
        clear y1 p0 p1 p2 p3 p4 p5 p6 p7 p8
        generalize wr.alloc (.cells #[.bool o.z.near, .int .i64 o.z.what, .int .i64 o.z.f, .int .i64 o.z.g, .int .i64 o.z.h, .int .i64 o.z.l, .int .i64 o.z.c, .slice o.z.ia o.z.il o.z.ic, .slice o.z.ca o.z.cl o.z.cc] 38) = w10 at *
        generalize wr.heap.size = ob at *
        obtain ⟨o0, o1, o2, o3, o4, o5, o6, o7, o8⟩ := NBX.out.all
        have hRl := I.out.2
        have hB10 : w.heap.size ≤ w10.heap.size := X10.out.size
        have STP := hide (step_ok (z := o.z) (IN := o.IN) TI10.out hB10 (by omega) HOK.out.fit (by omega) (by omega) HOK.out.il (HOK.out.at_.below X10.out) HOK.out.le)
        unfold opA at STP
        have HRL := hide hRl
        clear hRl
        go_upto_region 29 with (go_at_call 17; refine STP.out.mono ?_; rintro e w11 ⟨r, er, N2, P2, g, c, rfl, ti, bb, ok⟩; have TI11 := hide ti; have B11 := hide bb; have OK11 := hide ok; clear ti bb ok)
        clear STP o0 o1 o2 o3 o4 o5 o6 o7 o8
        have X11 := hide (X10.out.trans B11.out)
        have hB11 : w.heap.size ≤ w11.heap.size := X11.out.size
        rcases OK11.out with ⟨rfl, hr, hbk, hnp⟩ | rfl
        · have AD := hide (add_ok (f := r) (rb := g) (rc := c) TI11.out hB11 (by have := HRL.out; omega) (by omega) hr hbk hnp)
          clear hr hbk hnp OK11
          go_wp2_with (go_at_call 16; refine AD.out.mono ?_; rintro e w12 ⟨rfl, fv2, sv2, V2, h2, b2, _⟩; have TI12 := hide h2; have X12 := hide (X11.out.trans b2); clear h2 b2)
          go_roundw
          case rel => exact ⟨i + 1, by omega, by go_num, N2, P2, _, _, fv2, sv2, V2, ⟨TI12.out, by rw [List.length_append, HRL.out]; rfl⟩, X12⟩
          case measure => simp [RowKit.intOf]; omega
        · clear OK11
          go_wp2
          go_meet
          exact X11
      · have hlt' : ¬ (i : Int) < (T.length : Int) := by omega
        go_wp2
        go_meet
        exact HQ
  obtain ⟨w9, hw9⟩ : ∃ w9, w9 = wc := ⟨_, rfl⟩
  subst hw9
  have X09 := hcut
  go_wp2
  go_ret
  exact ⟨rfl, X09.out⟩
end Go.Proofs.Ytaafeflbanoncaa
