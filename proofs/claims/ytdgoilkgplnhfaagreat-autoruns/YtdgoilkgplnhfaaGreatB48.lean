/-
  The document's Shortest by its contract. Condition: lists no longer than a process can hold.
-/
import Derived.Test.YtdgoilkgplnhfaaGreatB47
import Derived.Test.YtdgoilkgplnhfaaGreatB46
import Derived.BigQuiet
namespace Go.Proofs.YtdgoilkgplnhfaaGreat
open Go.RowKit Go.Lib

/-- Texts as cells. -/
def tC (T : List (List Nat)) : List Value := T.map fun t => Value.string ⟨(btOf t).toArray⟩
theorem tC_len (T : List (List Nat)) : (tC T).length = T.length := by simp [tC]
theorem tC_snoc (T : List (List Nat)) (t : List Nat) : tC (T ++ [t]) = tC T ++ [.string ⟨(btOf t).toArray⟩] := by simp [tC]
theorem tC_get {T : List (List Nat)} {i : Nat} (h : i < T.length) : (tC T)[i]'(by rw [tC_len]; exact h) = .string ⟨(btOf (T.getD i [])).toArray⟩ := by simp [tC, List.getD_eq_getElem?_getD, h]
/-- The flags and the list of the states that were met. -/
def MtB (B : List Bool) (n m : Nat) : Prop := B.length = n ∧ ∀ s, s < n → gB B s = decide (s < m)
theorem MtB.start {n : Nat} (h : 0 < n) : MtB ((List.replicate n false).set 0 true) n 1 := ⟨by simp, fun s hs => by
  rw [gB_set (by simp; exact h), gB_false]
  by_cases e : s = 0
  · rw [if_pos e]; simp [e]
  · rw [if_neg e]; simp; omega⟩
theorem MtB.new {B : List Bool} {n m : Nat} (h : MtB B n m) (hm : m < n) : MtB (B.set m true) n (m + 1) := ⟨by rw [List.length_set]; exact h.1, fun s hs => by
  rw [gB_set (by rw [h.1]; exact hm), h.2 s hs]
  by_cases e : s = m
  · rw [if_pos e]; simp [e]
  · rw [if_neg e]
    by_cases k : s < m
    · simp [k]; omega
    · simp [k]; omega⟩
def MtL (L : List Nat) (m : Nat) : Prop := L.length = m ∧ ∀ j, j < m → gN L j = j
theorem MtL.new {L : List Nat} {m : Nat} (h : MtL L m) : MtL (L ++ [m]) (m + 1) := ⟨by simp [h.1], fun j hj => by
  rcases Nat.lt_or_ge j m with h1 | h1
  · have := h.2 j h1
    unfold gN at this ⊢
    rw [List.getD_eq_getElem?_getD, List.getElem?_append_left (by rw [h.1]; exact h1), ← List.getD_eq_getElem?_getD]
    exact this
  · obtain rfl : j = m := by omega
    unfold gN
    rw [List.getD_eq_getElem?_getD]
    simp [← h.1]⟩
theorem Tryz.info9s : (Tryz.prog.info? 9).map (fun i => (i.zero, i.size, i.bytes)) = some (some (.string ⟨#[]⟩), 1, 16) := by kernel_rfl
theorem bt_cat (t : List Nat) (b : Nat) : (⟨(btOf t).toArray⟩ : ByteArray) ++ ⟨#[UInt8.ofNat b]⟩ = ⟨(btOf (t ++ [b])).toArray⟩ := by
  apply ByteArray.ext
  simp [btOf]
set_option maxRecDepth 100000 in
set_option maxHeartbeats 8000000 in
theorem shortD_any (bs : By) (na oa : Option Addr) (nc oc : Nat) (NZ OZ : List Int) (lb : Int) (w : World) (hnl : NZ.length ≤ 140737488351232) (hol : OZ.length ≤ 140737488351232) (hnx : ZAt w na NZ) (hou : ZAt w oa OZ) :
    Calls Tryz.prog 30 #[auV bs na NZ.length nc oa OZ.length oc, .int .i64 lb] w fun e w' => ShP bs NZ OZ lb e ∧ Below w.heap.size w w' := by
  obtain ⟨i3, hi3, hz30, hz31, hz32⟩ := info_parts Tryz.info3n
  obtain ⟨i4, hi4, hz40, hz41, hz42⟩ := info_parts Tryz.info4n
  obtain ⟨i9, hi9, hz90, hz91, hz92⟩ := info_parts Tryz.info9s
  have X1 : Below w.heap.size w (w.alloc (.cells #[.string ⟨bs.toArray⟩, .slice na NZ.length nc, .slice oa OZ.length oc] 24)) := al (Below.refl _ _) _
  have B1 := heap_alloc_new w (.cells #[.string ⟨bs.toArray⟩, .slice na NZ.length nc, .slice oa OZ.length oc] 24)
  obtain ⟨w1, hw1⟩ : ∃ w1, w1 = w.alloc (.cells #[.string ⟨bs.toArray⟩, .slice na NZ.length nc, .slice oa OZ.length oc] 24) := ⟨_, rfl⟩
  rw [← hw1] at X1 B1
  have HC : Hid (∀ V, Below w1.heap.size w1 V → V.cell? ⟨w.heap.size, 0, none⟩ = some (.string ⟨bs.toArray⟩) ∧ V.cell? ⟨w.heap.size, 1, none⟩ = some (.slice na NZ.length nc) ∧ V.cell? ⟨w.heap.size, 2, none⟩ = some (.slice oa OZ.length oc) ∧ ZAt V na NZ ∧ ZAt V oa OZ) := fun V x => by
    have Bv := (x.block _ (lt_of_block B1)).trans B1
    exact ⟨by rw [cell_of_row _ _ _ _ _ _ Bv]; rfl, by rw [cell_of_row _ _ _ _ _ _ Bv]; rfl, by rw [cell_of_row _ _ _ _ _ _ Bv]; rfl, hnx.below (bt X1 x (Nat.le_refl _)), hou.below (bt X1 x (Nat.le_refl _))⟩
  have HX1 := hide X1
  obtain ⟨c0, c1, c2, kx, ko⟩ := HC.out w1 (Below.refl _ _)
  have HR := hide (rightD_any bs na oa nc oc NZ OZ w1 hnl hol kx ko)
  clear X1 B1 hnx hou kx ko
  unfold auV at HR ⊢
  go_enter Tryz.func30, Tryz.ntmps30
  go_upto_region 1 with fail
  rw [← hw1]
  clear hw1
  go_wp2_with (fail)
  refine HR.out.mono ?_
  rintro e w2 ⟨⟨b, rfl, hb⟩, x2⟩
  have HBB := hide hb
  have X2 := hide x2
  clear HR c0 c1 c2 hb x2
  cases b with
  | false =>
    have HN : Hid (¬ RightZ bs NZ OZ) := fun h => by have := HBB.out.2 h; cases this
    have Xf := hide (bt HX1.out X2.out (Nat.le_refl _))
    go_wp2
    go_ret3
    exact ⟨.inl ⟨HN.out, rfl⟩, Xf.out⟩
  | true =>
    obtain ⟨h256, NX, OU, rfl, rfl, hM, hRt⟩ := HBB.out.1 rfl
    have HMZ := may_back hM hRt
    have hwm : NX.length / OU.length = mxL (ntL bs) + 1 := hM.w (by have := HMZ.2.2.2.1; rw [zN_len, zN_len] at this; exact this)
    rw [zN_len] at h256
    have HC2 : Hid (∀ V, Below w1.heap.size w1 V → V.cell? ⟨w.heap.size, 0, none⟩ = some (.string ⟨bs.toArray⟩) ∧ V.cell? ⟨w.heap.size, 1, none⟩ = some (.slice na NX.length nc) ∧ V.cell? ⟨w.heap.size, 2, none⟩ = some (.slice oa OU.length oc) ∧ NAt V na NX ∧ NAt V oa OU) := fun V x => by
      obtain ⟨h0, h1, h2, h3, h4⟩ := HC.out V x
      rw [zN_len] at h1 h2
      exact ⟨h0, h1, h2, h3.nat, h4.nat⟩
    obtain ⟨c0, c1, c2, -, -⟩ := HC2.out w2 X2.out
    obtain ⟨W, hW⟩ : ∃ W, W = mxL (ntL bs) + 1 := ⟨_, rfl⟩
    have HWD := hide (wideD_any bs na oa NX.length nc OU.length oc w2 hM.bl)
    rw [← hW] at HWD hwm
    unfold auV at HWD
    have hbl := hM.bl
    have hxl := hM.nxl
    have hn0 := hM.n0
    have HM := hide hM
    have HRT := hide hRt
    have HW := hide hwm
    have HOK : Hid (ShP bs (zN NX) (zN OU) lb = ShP bs (zN NX) (zN OU) lb) := rfl
    clear HC HBB HMZ hM hRt hwm hW hnl hol
    go_upto_region 5 with (go_at_call 68; refine HWD.out.mono ?_; rintro e w3 ⟨rfl, x3⟩; have X3 := hide (bt X2.out x3 (Nat.le_refl _)); clear x3)
    clear c0 c1 c2 HWD
    obtain ⟨c0, c1, c2, -, -⟩ := HC2.out w3 X3.out
    go_upto_region 6 with (at_make; refine wpList_make_full _ rfl (.tmp 23) (.tmp 23) 86 rfl w3.heap.size 4 i4 (.bool false) 1 Tryz.underlying86 hi4 hz40 hz41 .i64 .i64 _ _ OU.length rfl rfl rfl rfl (by rw [hz42]; omega) (by unfold maxLen; omega) (Nat.le_refl _) ?_; intro w4 m1 m2; have F4 := hide ((Fr.start w3).madeB m1 m2); clear m1 m2)
    clear c0 c1 c2
    obtain ⟨gb, hgb⟩ : ∃ gb, gb = w3.heap.size := ⟨_, rfl⟩
    rw [← hgb] at F4 ⊢
    clear hgb
    obtain ⟨s0, s1⟩ := F4.out.slotB (i := 0) (by simp) rfl (k := 0) (by rw [List.length_replicate]; exact hn0)
    have F5 := hide (F4.out.storeB (i := 0) (by simp) rfl 0 true)
    have h0' : (0 : Int) < (OU.length : Int) := by omega
    go_upto_region 7 with fail
    obtain ⟨w5, hw5⟩ : ∃ w5, w5 = w4.setCell ⟨gb, 0, none⟩ (.bool true) := ⟨_, rfl⟩
    rw [← hw5] at F5 ⊢
    clear hw5 s0 s1 F4
    have F6 := hide (F5.out.box 3 [.int .i64 0] (by simp [maxLen]))
    go_upto_region 8 with fail
    obtain ⟨w6, hw6⟩ : ∃ w6, w6 = w5.alloc (.cells #[.int .i64 0] 3) := ⟨_, rfl⟩
    obtain ⟨v0, hv0⟩ : ∃ v0 : Value, v0 = .slice (some ⟨w5.heap.size, 0, none⟩) 1 1 := ⟨_, rfl⟩
    have F6 : Hid (Fr w3 [(v0, 3, nCells [0]), (.slice (some ⟨gb, 0, none⟩) OU.length OU.length, 4, bC ((List.replicate OU.length false).set 0 true))] w6) := by rw [hv0, hw6]; exact F6.out
    rw [← hw6, ← hv0]
    clear hw6 hv0 F5
    have F7 := hide (F6.out.box 9 [.string ⟨#[]⟩] (by simp [maxLen]))
    go_upto_region 9 with fail
    obtain ⟨w7, hw7⟩ : ∃ w7, w7 = w6.alloc (.cells #[.string ⟨#[]⟩] 9) := ⟨_, rfl⟩
    obtain ⟨v1, hv1⟩ : ∃ v1 : Value, v1 = .slice (some ⟨w6.heap.size, 0, none⟩) 1 1 := ⟨_, rfl⟩
    have F7 : Hid (Fr w3 [(v1, 9, tC [[]]), (v0, 3, nCells [0]), (.slice (some ⟨gb, 0, none⟩) OU.length OU.length, 4, bC ((List.replicate OU.length false).set 0 true))] w7) := by rw [hv1, hw7]; exact F7.out
    rw [← hw7, ← hv1]
    clear hw7 hv1 F6
    have S0 : Hid (SdS (dfA bs NX OU) 1 0 0 [[]]) := SdS.start (D := dfA bs NX OU) hn0
    have M0 : Hid (MtB ((List.replicate OU.length false).set 0 true) OU.length 1) := MtB.start hn0
    have L0 : Hid (MtL [0] 1) := ⟨rfl, fun j hj => by
      have e : j = 0 := by omega
      rw [e]
      rfl⟩
    have HF3 : Hid (∀ V R, Fr w3 R V → Below w1.heap.size w1 V) := fun V R F => bt X3.out F.bel (Nat.le_refl _)
    go_wp2
    go_loopg [10, 11, 12] (OU.length + 1) (fun g x y z wr => ∃ (i m : Nat) (B : List Bool) (L : List Nat) (T : List (List Nat)), z = .int .i64 (i : Nat) ∧ i ≤ m ∧ Hid (Fr w3 [(y, 9, tC T), (x, 3, nCells L), (.slice (some ⟨gb, 0, none⟩) OU.length OU.length, 4, bC B)] wr) ∧ Hid (SdS (dfA bs NX OU) m i 0 T) ∧ Hid (MtB B OU.length m) ∧ Hid (MtL L m) ∧ Hid (∀ j, j < i → (dfA bs NX OU).ou j ≠ lb) ∧ OU.length - i < g)
    case atStart => exact ⟨0, 1, _, _, _, rfl, by omega, F7, S0, M0, L0, fun j hj => by omega, by omega⟩
    case round =>
      clear F7 S0 M0 L0
      obtain ⟨i, m, B, L, T, rfl, him, F, S, MB, ML, HN, hg⟩ := hrel
      have HG := hide hg
      clear hg
      have hmn : m ≤ OU.length := S.out.le
      have hLl := ML.out.1
      have hTl := S.out.tl
      obtain ⟨la, lc, hv⟩ := F.out.shape (i := 1) (by simp) rfl
      rw [nCells_length, hLl] at hv
      subst hv
      obtain ⟨ta, tc, hv⟩ := F.out.shape (i := 0) (by simp) rfl
      rw [tC_len, hTl] at hv
      subst hv
      by_cases hi : i < m
      · have hi' : (i : Int) < (m : Int) := by omega
        obtain ⟨lg, e, -, -⟩ := F.out.cell (i := 1) (by simp) rfl (k := i) (by rw [nCells_length]; omega)
        subst e
        obtain ⟨tg, e, -, -⟩ := F.out.cell (i := 0) (by simp) rfl (k := i) (by rw [tC_len]; omega)
        subst e
        obtain ⟨s0, -⟩ := F.out.slotN (i := 1) (by simp) rfl (k := i) (by omega)
        rw [ML.out.2 i hi] at s0
        obtain ⟨c0, c1, c2, -, ko⟩ := HC2.out wr (HF3.out _ _ F.out)
        obtain ⟨ob, ooff, rfl, -, -⟩ := ko.get (i := i) (by omega)
        have sou := ko.atG (i := i) (by omega)
        have HOU : Hid ((dfA bs NX OU).ou i = ((gN OU i : Nat) : Int)) := rfl
        have hio : (i : Int) < (OU.length : Int) := by omega
        clear ko
        generalize gN OU i = u at *
        by_cases hul : ((u : Nat) : Int) = lb
        · as_aux_lemma =>
          have b1 : (((u : Nat) : Int) == lb) = true := by simpa using hul
          have HLT := hide (S.out.lt i hi)
          have HUL : Hid ((dfA bs NX OU).ou i = lb) := HOU.out.trans hul
          have H256 := hide h256
          have hiO : i < OU.length := by omega
          clear hul S MB ML
          go_wp2
          go_quiet (fail)
          obtain ⟨wq, hwq⟩ : ∃ wq, wq = wr.drewN nq := ⟨_, rfl⟩
          have FQ := hide (F.out.drew nq)
          rw [← hwq] at FQ ⊢
          clear hwq s0 c0 c1 c2 sou F
          obtain ⟨q0, -⟩ := FQ.out.slot (i := 0) (by simp) rfl (k := i) (by rw [tC_len]; omega)
          rw [tC_get (by omega)] at q0
          obtain ⟨t, ht⟩ : ∃ t, t = T.getD i [] := ⟨_, rfl⟩
          rw [← ht] at q0 HLT
          clear ht
          have Xf := hide (bt HX1.out (HF3.out _ _ FQ.out) (Nat.le_refl _))
          go_wp2
          go_ret3
          exact ⟨.inr ⟨NX, OU, rfl, rfl, HM.out, HRT.out, H256.out, .inl ⟨i, _, hiO, HUL.out, HN.out, HLT.out, rfl⟩⟩, Xf.out⟩
        have b1 : (((u : Nat) : Int) == lb) = false := by simpa using hul
        have HN2 : Hid (∀ j, j < i + 1 → (dfA bs NX OU).ou j ≠ lb) := fun j hj => by
          rcases Nat.lt_or_ge j i with h1 | h1
          · exact HN.out j h1
          · obtain rfl : j = i := by omega
            rw [HOU.out]; exact hul
        clear hul HN HOU
        go_wp2
        go_quiet (fail)
        obtain ⟨wq, hwq⟩ : ∃ wq, wq = wr.drewN nq := ⟨_, rfl⟩
        have FQ := hide (F.out.drew nq)
        rw [← hwq] at FQ ⊢
        clear hwq s0 c0 c1 c2 sou F
        go_wp2
        go_loopg [10, 11, 13] 257 (fun g x y z wr => ∃ (b m : Nat) (B : List Bool) (L : List Nat) (T : List (List Nat)), z = .int .i64 (b : Nat) ∧ b ≤ 256 ∧ Hid (Fr w3 [(y, 9, tC T), (x, 3, nCells L), (.slice (some ⟨gb, 0, none⟩) OU.length OU.length, 4, bC B)] wr) ∧ Hid (SdS (dfA bs NX OU) m i b T) ∧ Hid (MtB B OU.length m) ∧ Hid (MtL L m) ∧ i < m ∧ 256 - b < g)
        case atStart => exact ⟨0, m, B, L, T, rfl, by omega, FQ, S, MB, ML, hi, by omega⟩
        case round =>
          clear FQ S MB ML hi hi' him hmn hLl hTl b1 hio
          obtain ⟨b, m, B, L, T, rfl, hb1, F, S, MB, ML, hi, hg⟩ := hrel
          have HG2 := hide hg
          clear hg
          have hmn : m ≤ OU.length := S.out.le
          have hLl := ML.out.1
          have hTl := S.out.tl
          obtain ⟨la, lc, hv⟩ := F.out.shape (i := 1) (by simp) rfl
          rw [nCells_length, hLl] at hv
          subst hv
          obtain ⟨ta, tc, hv⟩ := F.out.shape (i := 0) (by simp) rfl
          rw [tC_len, hTl] at hv
          subst hv
          by_cases hb : b < 256
          · have hb' : (b : Int) < 256 := by omega
            obtain ⟨lg, e, -, -⟩ := F.out.cell (i := 1) (by simp) rfl (k := i) (by rw [nCells_length]; omega)
            subst e
            obtain ⟨tg, e, -, -⟩ := F.out.cell (i := 0) (by simp) rfl (k := i) (by rw [tC_len]; omega)
            subst e
            obtain ⟨s0, -⟩ := F.out.slotN (i := 1) (by simp) rfl (k := i) (by omega)
            rw [ML.out.2 i hi] at s0
            obtain ⟨c0, c1, c2, kx, -⟩ := HC2.out wr (HF3.out _ _ F.out)
            have hbb : b < bs.length := by omega
            have hlb : (b : Int) < (bs.length : Int) := by omega
            obtain ⟨y, hy⟩ : ∃ y, bs[b] = y := ⟨_, rfl⟩
            have hgy : ∀ hk, (⟨bs.toArray⟩ : ByteArray)[b]'hk = y := fun _ => hy
            have hcw := HM.out.bw b hb
            have hgd : bs.getD b 0 = y := by simp [List.getD_eq_getElem?_getD, hbb, hy]
            rw [hgd, HW.out] at hcw
            have hiO : i < OU.length := by omega
            have hq : i * W + y.toNat < NX.length := by rw [HM.out.wl, HW.out]; exact at_lt hiO hcw
            obtain ⟨xb, xoff, rfl, -, -⟩ := kx.get hq
            have sx := kx.atG hq
            have hst : (dfA bs NX OU).step i b = gN NX (i * W + y.toNat) := by
              show gN NX (i * (NX.length / OU.length) + (bs.getD b 0).toNat) = _
              rw [HW.out, hgd]
            have hqn : gN NX (i * W + y.toNat) < OU.length := by rw [gN_lt hq]; exact HM.out.nl _ (List.getElem_mem hq)
            have HST := hide hst
            have wy : IntKind.i64.wrap ((y.toNat : Nat) : Int) = ((y.toNat : Nat) : Int) := w64_n _ (by have := y.toNat_lt; omega)
            clear kx hst hgd hy hcw
            generalize gN NX (i * W + y.toNat) = q at *
            have f1 : IntKind.i64.wrap ((i : Int) * (W : Int)) = ((i * W : Nat) : Int) := by rw [show (i : Int) * (W : Int) = ((i * W : Nat) : Int) by simp]; exact w64_n _ (by omega)
            generalize hmm : i * W = z0 at *
            have f3 : IntKind.i64.wrap ((z0 : Int) + ((y.toNat : Nat) : Int)) = ((z0 + y.toNat : Nat) : Int) := by rw [show (z0 : Int) + ((y.toNat : Nat) : Int) = ((z0 + y.toNat : Nat) : Int) by simp]; exact w64_n _ (by omega)
            have hln : (z0 : Int) + ((y.toNat : Nat) : Int) < (NX.length : Int) := by omega
            have hlz : (0 : Int) ≤ (z0 : Int) + ((y.toNat : Nat) : Int) := by omega
            have hlt : ((z0 : Int) + ((y.toNat : Nat) : Int)).toNat = z0 + y.toNat := by omega
            have hi' : (i : Int) < (m : Int) := by omega
            clear hmm
            go_wp2
            go_quiet (fail)
            obtain ⟨wq, hwq⟩ : ∃ wq, wq = wr.drewN nq := ⟨_, rfl⟩
            have FQ := hide (F.out.drew nq)
            rw [← hwq] at FQ ⊢
            clear hwq s0 c0 c1 c2 sx f1 f3 hln hlz hlt F wy hgy
            have hBl := MB.out.1
            obtain ⟨s0, s1⟩ := FQ.out.slotB (i := 2) (by simp) rfl (k := q) (by omega)
            have hgq : B.getD q false = decide (q < m) := MB.out.2 q hqn
            rw [hgq] at s0
            have hqi : (q : Int) < (OU.length : Int) := by omega
            clear hgq
            by_cases hqm : q < m
            · as_aux_lemma =>
              rw [decide_eq_true hqm] at s0
              have S2 := hide (S.out.old (by rw [HST.out]; exact hqm))
              clear s1 S
              go_wp2
              go_roundg (256 - (b + 1) + 1)
              case measure => have := HG2.out; omega
              case rel => exact ⟨b + 1, m, B, L, T, by first | rfl | go_num | (congr 1; omega), by omega, FQ, S2, MB, ML, hi, by omega⟩
            · as_aux_lemma =>
              rw [decide_eq_false hqm] at s0
              have hqe : q = m := by rw [← HST.out]; exact S.out.is HRT.out hi hb (by rw [HST.out]; omega)
              have S2 := hide (S.out.new HRT.out hi hb (by rw [HST.out]; omega))
              have MB2 := hide (MB.out.new (by omega))
              have ML2 := hide ML.out.new
              obtain ⟨t, ht⟩ : ∃ t, t = T.getD i [] := ⟨_, rfl⟩
              have hlen : t.length ≤ 256 := by rw [ht]; have := (S.out.lt i hi).len; omega
              rw [← ht] at S2
              have HT := hide ht
              clear ht
              subst hqe
              have F2 := hide (FQ.out.storeB (i := 2) (by simp) rfl q true)
              clear S MB ML HST
              go_upto_region 20 with fail
              obtain ⟨wa, hwa⟩ : ∃ wa, wa = wq.setCell ⟨gb, q, none⟩ (.bool true) := ⟨_, rfl⟩
              have F2 : Hid (Fr w3 [(.slice (some ⟨tg, 0, none⟩) q tc, 9, tC T), (.slice (some ⟨lg, 0, none⟩) q lc, 3, nCells L), (.slice (some ⟨gb, 0, none⟩) OU.length OU.length, 4, bC (B.set q true))] wa) := by rw [hwa]; exact F2.out
              rw [← hwa]
              clear hwa s0 s1 FQ
              obtain ⟨p1, p2, p3⟩ := F2.out.pre (i := 1) (by simp) rfl (q : Int)
              rw [hLl] at p1
              have P1 := hide p1
              have P2 := hide p2
              have P3 := hide p3
              have HPU : Hid (∀ v' w6, w6.ownsRow w3.heap.size 3 1 v' (q + 1) (nCells L ++ [.int .i64 (q : Int)]) → AppAt (wa.alloc (.cells #[.int .i64 (q : Int)] 3)) w6 (.slice (some ⟨lg, 0, none⟩) q lc) v' → Fr w3 [(.slice (some ⟨tg, 0, none⟩) q tc, 9, tC T), (v', 3, nCells (L ++ [q])), (.slice (some ⟨gb, 0, none⟩) OU.length OU.length, 4, bC (B.set q true))] w6) := fun v' w6 k1 k2 => F2.out.push (i := 1) (by simp) rfl (by rw [hLl]; exact k1) k2
              clear p1 p2 p3
              go_upto_region 21 with (at_builtin; refine wpList_append_view rfl (.tmp 77) (.tmp 79) 22 rfl w3.heap.size 3 i3 (.int .i64 0) 1 8 Tryz.underlying22 hi3 hz30 hz31 hz32 rfl (by decide) _ q _ rfl P1.out ⟨wa.heap.size, 0, none⟩ 1 1 [(.int .i64 (q : Int))] rfl rfl P2.out (by simp [Value.oneCell']) (by decide) (by unfold maxLen; omega) (by omega) P3.out ?_; intro v6 w6 k1 k2; have FZ := hide (HPU.out v6 w6 k1 k2); clear k1 k2)
              clear P1 P2 P3 HPU F2
              have FD : Hid (Fr w3 [(.slice (some ⟨tg, 0, none⟩) q tc, 9, tC T), (v6, 3, nCells (L ++ [q])), (.slice (some ⟨gb, 0, none⟩) OU.length OU.length, 4, bC (B.set q true))] w6.drew) := FZ.out.below (Below.refl _ _).drew
              obtain ⟨Sx, HSE⟩ : ∃ Sx : World → Prop, Hid (∀ V, Sx V ↔ Fr w3 [(.slice (some ⟨tg, 0, none⟩) q tc, 9, tC T), (v6, 3, nCells (L ++ [q])), (.slice (some ⟨gb, 0, none⟩) OU.length OU.length, 4, bC (B.set q true))] V) := ⟨_, fun _ => Iff.rfl⟩
              have HRD : Hid (∀ V, Sx V → V.cell? ⟨tg, i, none⟩ = some (.string ⟨(btOf t).toArray⟩)) := fun V hV => by
                have F := (HSE.out V).1 hV
                obtain ⟨k1, -⟩ := F.slot (i := 0) (by simp) rfl (k := i) (by rw [tC_len]; omega)
                rw [tC_get (by omega), ← HT.out] at k1
                exact k1
              have HS0 : Hid (Sx w6.drew) := (HSE.out _).2 FD.out
              have wb : IntKind.u8.wrap ((b : Nat) : Int) = ((b : Nat) : Int) := by simp [IntKind.wrap, IntKind.bits, IntKind.signed]; omega
              clear FZ
              refine wp_unt (S := Sx) 11 (by kernel_rfl) ?_
              generalize w6.drew = wd at *
              refine UntH.take (i := 0) (some 81) rfl rfl (by kernel_rfl) (by kernel_rfl) (by kernel_rfl) (by kernel_rfl) (fun _ _ _ _ h => h) (by rfl) HS0.out ?_
              apply Exists.intro
              refine ⟨fun w' hw' => ?_, ?_⟩
              · have q1 := HRD.out w' hw'
                go_simp
                first | done | rfl
              try simp only [Act.put, List.setIfInBounds_toArray, List.set_cons_zero, List.set_cons_succ]
              refine UntH.take (i := 1) (some 82) rfl rfl (by kernel_rfl) (by kernel_rfl) (by kernel_rfl) (by kernel_rfl) (fun _ _ _ _ h => h) (by rfl) HS0.out ?_
              apply Exists.intro
              refine ⟨fun w' hw' => ?_, ?_⟩
              · have q1 := HRD.out w' hw'
                go_simp
                first | done | rfl
              try simp only [Act.put, List.setIfInBounds_toArray, List.set_cons_zero, List.set_cons_succ]
              refine UntH.take (i := 2) (some 83) rfl rfl (by kernel_rfl) (by kernel_rfl) (by kernel_rfl) (by kernel_rfl) (fun _ _ _ _ h => h) (by rfl) HS0.out ?_
              apply Exists.intro
              refine ⟨fun w' hw' => ?_, ?_⟩
              · have q1 := HRD.out w' hw'
                go_simp
                first | done | rfl
              try simp only [Act.put, List.setIfInBounds_toArray, List.set_cons_zero, List.set_cons_succ]
              refine UntH.take (i := 3) (some 84) rfl rfl (by kernel_rfl) (by kernel_rfl) (by kernel_rfl) (by kernel_rfl) (fun _ _ _ _ h => h) (by rfl) HS0.out ?_
              apply Exists.intro
              refine ⟨fun w' hw' => ?_, ?_⟩
              · have q1 := HRD.out w' hw'
                go_simp
                first | done | rfl
              try simp only [Act.put, List.setIfInBounds_toArray, List.set_cons_zero, List.set_cons_succ]
              refine UntH.take (i := 4) (some 85) rfl rfl (by kernel_rfl) (by kernel_rfl) (by kernel_rfl) (by kernel_rfl) (fun _ _ _ _ h => h) (by rfl) HS0.out ?_
              apply Exists.intro
              refine ⟨fun w' hw' => ?_, ?_⟩
              · have q1 := HRD.out w' hw'
                go_simp
                first | done | rfl
              try simp only [Act.put, List.setIfInBounds_toArray, List.set_cons_zero, List.set_cons_succ]
              refine UntH.take (i := 5) (some 86) rfl rfl (by kernel_rfl) (by kernel_rfl) (by kernel_rfl) (by kernel_rfl) (fun _ _ _ _ h => h) (by rfl) HS0.out ?_
              apply Exists.intro
              refine ⟨fun w' hw' => ?_, ?_⟩
              · have q1 := HRD.out w' hw'
                go_simp
                first | done | rfl
              try simp only [Act.put, List.setIfInBounds_toArray, List.set_cons_zero, List.set_cons_succ]
              refine UntH.take (i := 6) (some 87) rfl rfl (by kernel_rfl) (by kernel_rfl) (by kernel_rfl) (by kernel_rfl) (fun _ _ _ _ h => h) (by rfl) HS0.out ?_
              apply Exists.intro
              refine ⟨fun w' hw' => ?_, ?_⟩
              · have q1 := HRD.out w' hw'
                go_simp
                first | done | rfl
              try simp only [Act.put, List.setIfInBounds_toArray, List.set_cons_zero, List.set_cons_succ]
              have x1 : Below wd.heap.size wd (wd.alloc (.cells #[.int .u8 (b : Int)] 5)) := al (Below.refl _ _) _
              have HS1 : Hid (Sx (wd.alloc (.cells #[.int .u8 (b : Int)] 5))) := (HSE.out _).2 (FD.out.below x1)
              have hcv : (convert 89 9 (.slice (some ⟨wd.heap.size, 0, none⟩) 1 1)).run Tryz.prog (wd.alloc (.cells #[.int .u8 (b : Int)] 5)) = .ok (.string ⟨#[UInt8.ofNat b]⟩) (wd.alloc (.cells #[.int .u8 (b : Int)] 5)) := by
                have B1 := heap_alloc_new wd (.cells #[.int .u8 (b : Int)] 5)
                have := run_convert_bytes_arg (P := Tryz.prog) (wd.alloc (.cells #[.int .u8 (b : Int)] 5)) 89 5 Tryz.underlying89 Tryz.underlying5 wd.heap.size 0 1 1 [(b : Int)] (by simp) (fun i hi => by
                  obtain rfl : i = 0 := by omega
                  rw [cell_of_row _ _ _ _ _ _ B1]; rfl) 9 Tryz.underlying9
                rw [this]
                rfl
              refine UntH.step (i := 7) (by kernel_rfl) rfl (fun K hK => ?_)
              go_simp
              refine hK _ _ HS1.out ?_
              clear hK K
              have FE := hide (FD.out.below x1)
              generalize wd.alloc (.cells #[.int .u8 (b : Int)] 5) = we at *
              refine UntH.step (i := 8) (by kernel_rfl) rfl (fun K hK => ?_)
              go_simp
              refine hK _ _ HS1.out ?_
              clear hK K hcv
              have hcat : ¬ 9223372036854775807 < (btOf t).length + 1 := by unfold btOf; rw [List.length_map]; omega
              have hcs : (⟨(btOf t).toArray⟩ : ByteArray) ++ ⟨#[UInt8.ofNat b]⟩ = ⟨(btOf (t ++ [b])).toArray⟩ := bt_cat t b
              refine UntH.step (i := 9) (by kernel_rfl) rfl (fun K hK => ?_)
              go_simp
              try rw [hcs]
              refine hK _ _ HS1.out ?_
              clear hK K hcat hcs
              have y1 : Below we.heap.size we (we.alloc (.cells #[.string ⟨(btOf (t ++ [b])).toArray⟩] 9)) := al (Below.refl _ _) _
              have HS2 : Hid (Sx (we.alloc (.cells #[.string ⟨(btOf (t ++ [b])).toArray⟩] 9))) := (HSE.out _).2 (FE.out.below y1)
              have HOW : Hid ((we.alloc (.cells #[.string ⟨(btOf (t ++ [b])).toArray⟩] 9)).ownsRow w3.heap.size 9 1 (.slice (some ⟨tg, 0, none⟩) q tc) q (tC T)) := by
                have ho := FE.out.own (i := 0) (by simp) rfl
                rw [tC_len, hTl] at ho
                exact own_below ho y1
              have HNW : Hid (∀ (j : Nat) (z : Value), [(.string ⟨(btOf (t ++ [b])).toArray⟩)][j]? = some z → (we.alloc (.cells #[.string ⟨(btOf (t ++ [b])).toArray⟩] 9)).cell? ((⟨we.heap.size, 0, none⟩ : Addr).add j) = some z) := fun j z hu => by
                have hB := heap_alloc_new we (.cells #[.string ⟨(btOf (t ++ [b])).toArray⟩] 9)
                rw [addr_add', cell_of_row _ _ _ _ _ _ hB]
                simpa using hu
              have HSW : Hid (w3.heap.size ≤ (we.alloc (.cells #[.string ⟨(btOf (t ++ [b])).toArray⟩] 9)).heap.size) := Nat.le_trans FE.out.bel.size y1.size
              have HRO : Hid (∀ (g7 cap7 : Nat) (w7 : World), w7.ownsRow w3.heap.size 9 1 (.slice (some ⟨g7, 0, none⟩) (q + 1) cap7) (q + 1) (tC T ++ [.string ⟨(btOf (t ++ [b])).toArray⟩]) → (we.alloc (.cells #[.string ⟨(btOf (t ++ [b])).toArray⟩] 9)).grownBy w7 (Value.slice (some ⟨tg, 0, none⟩) q tc).ownBlock → ((Value.slice (some ⟨tg, 0, none⟩) q tc).ownBlock = some g7 ∨ g7 = (we.alloc (.cells #[.string ⟨(btOf (t ++ [b])).toArray⟩] 9)).heap.size) → Fr w3 [((.slice (some ⟨g7, 0, none⟩) (q + 1) cap7), 9, tC (T ++ [t ++ [b]])), (v6, 3, nCells (L ++ [q])), (.slice (some ⟨gb, 0, none⟩) OU.length OU.length, 4, bC (B.set q true))] w7) := fun g7 cap7 w7 h1 h2 h3 => by
                rw [tC_snoc]
                have := FE.out.lies y1 (i := 0) (by simp) rfl (g6 := g7) (cap6 := cap7) (x := .string ⟨(btOf (t ++ [b])).toArray⟩) (by rw [tC_len, hTl]; exact h1) h2 h3
                rw [tC_len, hTl] at this
                exact this
              refine UntH.step (i := 10) (by kernel_rfl) rfl (fun K hK => ?_)
              go_simp
              refine hK _ _ HS2.out ?_
              clear hK K
              refine UntH.stepf (i := 11) (by kernel_rfl) rfl (by kernel_rfl) (fun K hK => ?_)
              refine step_append_lies _ (by rfl) (.tmp 81) (.tmp 91) 50 (by rfl) w3.heap.size 9 i9 (.string ⟨#[]⟩) 1 16 Tryz.underlying50 hi9 hz90 hz91 hz92 rfl (by decide) _ q (tC T) (by rfl) HOW.out ⟨we.heap.size, 0, none⟩ 1 1 [(.string ⟨(btOf (t ++ [b])).toArray⟩)] (by rfl) (by rfl) HNW.out (by simp [Value.oneCell']) (by decide) (by unfold maxLen; omega) (by omega) HSW.out _ rfl ?_
              intro g7 cap7 w7 h1 h2 h3 h4
              have F7 := hide (HRO.out g7 cap7 w7 h1 h2 h3)
              refine hK _ _ ?_
              clear hK K h1 h2 h3 h4 HOW HNW HSW HRO HS2 HS1 HS0 HRD HSE FE FD
              refine UntH.stepf (i := 12) (by kernel_rfl) rfl (by kernel_rfl) (fun K hK => ?_)
              go_simp
              refine hK _ _ ?_
              clear hK K
              refine UntH.end (by kernel_rfl) ?_
              go_wp2
              go_roundg (256 - (b + 1) + 1)
              case measure => have := HG2.out; omega
              case rel => exact ⟨b + 1, q + 1, B.set q true, L ++ [q], T ++ [t ++ [b]], by first | rfl | go_num | (congr 1; omega), by omega, F7, S2, MB2, ML2, by omega, by omega⟩
          · as_aux_lemma =>
            have hb' : ¬ (b : Int) < 256 := by omega
            obtain rfl : b = 256 := by omega
            have S2 := hide S.out.row
            have hg3 := HG.out
            clear S
            go_wp2
            go_roundg (OU.length - (i + 1) + 1)
            case measure => omega
            case rel => exact ⟨i + 1, m, B, L, T, by first | rfl | go_num | (congr 1; omega), by omega, F, S2, MB, ML, HN2, by omega⟩
      · as_aux_lemma =>
        have hi' : ¬ (i : Int) < (m : Int) := by omega
        obtain rfl : i = m := by omega
        have HDN : Hid (i = OU.length) := S.out.done HRT.out
        have HNN : Hid (∀ j, j < OU.length → (dfA bs NX OU).ou j ≠ lb) := fun j hj => HN.out j (by rw [HDN.out]; exact hj)
        have Xf := hide (bt HX1.out (HF3.out _ _ F.out) (Nat.le_refl _))
        have H256 := hide h256
        clear F S MB ML
        go_wp2
        go_ret3
        exact ⟨.inr ⟨NX, OU, rfl, rfl, HM.out, HRT.out, H256.out, .inr ⟨HNN.out, rfl⟩⟩, Xf.out⟩
end Go.Proofs.YtdgoilkgplnhfaaGreat
