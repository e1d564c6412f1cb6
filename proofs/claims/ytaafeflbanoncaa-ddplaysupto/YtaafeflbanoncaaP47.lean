/-
  The document's Path by its contract. No condition.
-/
import Derived.Test.YtaafeflbanoncaaP46
import Derived.Test.YtaafeflbanoncaaP45
namespace Go.Proofs.Ytaafeflbanoncaa
open Go.RowKit Go.Lib Go.Maps

section
variable {w : World} {x : Nat} {S : List Int} {M : Int} {N : List Nd} {Q : Nat → Prop} {f : Int}
set_option maxRecDepth 100000 in
theorem pathD_bad (h : RA w x S M N Q) (hf : ¬ hasR N f) : Calls Try.prog 33 #[.pointer (some ⟨x, 0, none⟩), .int .i64 f] w fun e w' => e = .returned (.tuple #[.slice none 0 0, .bool false, .int .i64 1]) ∧ w' = w := by
  have hH1 := h.has f
  rw [Bool.eq_false_iff.2 (fun h => hf ((hasN_iff N rfl).1 h))] at hH1
  have H1 := hide hH1
  clear h hH1 hf
  go_enter Try.func33, Try.ntmps33
  go_wp2_with (go_at_call 52; refine H1.out.mono ?_; rintro e w1 ⟨rfl, hw1⟩; have hw2 := hw1.symm; clear hw1; subst hw2)
  go_ret3
  exact ⟨rfl, rfl⟩
set_option maxRecDepth 100000 in
theorem pathD_zero (h : RA w x S M N Q) : Calls Try.prog 33 #[.pointer (some ⟨x, 0, none⟩), .int .i64 0] w fun e w' => e = .returned (.tuple #[.slice none 0 0, .bool false, .int .i64 0]) ∧ w' = w := by
  have hH1 := h.has 0
  rw [(hasN_iff N rfl).2 ⟨by omega, by omega⟩] at hH1
  have H1 := hide hH1
  clear h hH1
  go_enter Try.func33, Try.ntmps33
  go_wp2_with (go_at_call 52; refine H1.out.mono ?_; rintro e w1 ⟨rfl, hw1⟩; have hw2 := hw1.symm; clear hw1; subst hw2)
  go_ret3
  exact ⟨rfl, rfl⟩
set_option maxRecDepth 100000 in
set_option maxHeartbeats 4000000 in
theorem pathD_ok (h : RA w x S M N Q) (hf : hasR N f) (hf0 : f ≠ 0) :
    Calls Try.prog 33 #[.pointer (some ⟨x, 0, none⟩), .int .i64 f] w fun e w' => PthL S N f w e w' := by
  have hH1 := h.has f
  rw [(hasN_iff N rfl).2 hf] at hH1
  have H1 := hide hH1
  have HH := hide h
  have HF := hide hf
  have HF0 := hide hf0
  have hs12 := h.ok.sz.le
  have HOK := hide h.ok
  obtain ⟨sb, sc, s0, _, s2, hxl⟩ := h.fields
  have hne : (f == 0) = false := by simpa using hf0
  have hmk := make_ints S.length (S.length : Int) rfl (by omega)
  have y4 : Below w.heap.size w (w.alloc (.cells (zC (List.replicate S.length 0)).toArray 3)) := al (Below.refl _ _) _
  have X4 := hide y4
  have R4 := hide (RwZ.made w (List.replicate S.length 0))
  have OB : Hid (∃ ob, ob = w.heap.size) := ⟨_, rfl⟩
  clear h hf hf0 y4 hH1 s2 hxl
  go_enter Try.func33, Try.ntmps33
  go_upto_block 0 with (go_at_call 52; refine H1.out.mono ?_; rintro e w1 ⟨rfl, hw1⟩; have hw2 := hw1.symm; clear hw1; subst hw2)
  clear H1 hmk s0 hne
  generalize w.alloc (.cells (zC (List.replicate S.length 0)).toArray 3) = w4 at *
  obtain ⟨ob, hob⟩ := OB.out
  rw [← hob] at R4
  try rw [← hob]
  have HOB : Hid (w.heap.size ≤ ob) := by rw [hob]; exact Nat.le_refl _
  clear hob OB
  go_wp2
  go_loopw [1] (fun v wr => ∃ f' : Int, v = .int .i64 f' ∧ Hid (hasR N f' ∧ f' ≠ 0) ∧ Hid (∃ n L, f'.toNat ≤ n ∧ pathF N n f' L = pathF N f.toNat f (List.replicate S.length 0) ∧ L.length = S.length ∧ (∀ j : Nat, lvl S N f' ≤ (j : Int) → L.getD j 0 = 0) ∧ RwZ wr ob L) ∧ Hid (Below w.heap.size w wr)) (fun v _ => (RowKit.intOf v).toNat)
  case atStart => exact ⟨f, rfl, ⟨HF.out, HF0.out⟩, ⟨f.toNat, _, Nat.le_refl _, rfl, by simp, fun j _ => zero_at _ _, R4.out⟩, X4⟩
  case round =>
    obtain ⟨f', rfl, HF', HE, XB⟩ := hrel
    obtain ⟨n, L, hn0, hp, hl, hz, rz⟩ := HE.out
    have HP := hide hp
    have HLl := hide hl
    have HZ := hide hz
    have RZ := hide rz
    clear hp hl hz rz HE
    by_cases h2 : 2 ≤ f'
    · have h2' : (1 : Int) < f' := by omega
      obtain ⟨l, ks, hn⟩ := HOK.out.ndAt h2 HF'.out.1.2
      have hls := hn.lt
      have hls' : (l : Int) < (S.length : Int) := by omega
      have HNA := hide hn
      obtain ⟨k1, k2, k3⟩ := fst0_spec ks (not_one hn.one)
      have K1 := hide k1
      have K2 := hide k2
      have K3 := hide k3
      have hk256 : fst0 ks < 256 := by have h5 := hn.len; have h6 := HOK.out.sz.each _ (getD_mem hls); omega
      obtain ⟨n', rfl⟩ : ∃ n', n = n' + 1 := ⟨n - 1, by omega⟩
      have LV := hide ((HH.out.below XB.out).level f')
      rw [hn.lev] at LV
      obtain ⟨kc, hkc⟩ : ∃ kc, fst0 ks = kc := ⟨_, rfl⟩
      rw [hkc] at k1 k2 k3 hk256 K1 K2 K3
      have PN := hide (pathF_node (L := L) hn h2 n')
      rw [hkc] at PN
      have HS0 : Hid (RwZ wr ob (L.set l ((0 : Nat) : Int))) := by
        have e : L.set l ((0 : Nat) : Int) = L := by
          apply ext_getD
          · simp
          · intro i hi
            rw [setg]
            by_cases c : i = l ∧ l < L.length
            · rw [if_pos c, c.1]; exact (HZ.out l (by rw [hn.lev]; exact Int.le_refl _)).symm
            · rw [if_neg c]
        unfold Hid
        rw [e]
        exact RZ.out
      have KD : Hid (∀ W k, Below w.heap.size w W → k < ks.length → Calls Try.prog 68 #[.pointer (some ⟨x, 0, none⟩), .int .i64 f', .int .i64 (k : Int)] W fun e w' => e = .returned (.int .i64 (ks.getD k 0)) ∧ w' = W) := fun W k y hk => by
        have := kidD_any (HH.out.below y) HNA.out.at_ hk
        rw [show (((f' - 2).toNat : Nat) : Int) + 2 = f' by omega] at this
        exact this
      clear hn hkc k1 k2 k3
      go_upto_block 2 with (go_at_call 53; refine LV.out.mono ?_; rintro e w5 ⟨rfl, hw5⟩; have hw6 := hw5.symm; clear hw5; subst hw6)
      clear LV
      obtain ⟨wo, hwo⟩ : ∃ wo, wo = wr := ⟨_, rfl⟩
      subst hwo
      go_cut [] (fun wx => Hid (RwZ wx ob (L.set l (kc : Int))) ∧ Hid (Below w.heap.size w wx))
      case first =>
        go_wp2
        go_loopw [] (fun wr => ∃ k : Nat, Hid (k ≤ kc ∧ RwZ wr ob (L.set l (k : Int))) ∧ Hid (Below w.heap.size w wr)) (fun wr => kc - (RowKit.intOf ((wr.cell? ⟨ob, l, none⟩).getD undef)).toNat)
        case atStart => exact ⟨0, ⟨Nat.zero_le _, HS0.out⟩, XB⟩
        case round =>
          obtain ⟨k, HR, X5⟩ := hrel
          have hkl : k < ks.length := by have h7 := HR.out.1; have h8 := K1.out; omega
          have HKD := hide (KD.out _ k X5.out hkl)
          have q1 := HR.out.2.cell (k := l) (by rw [List.length_set, HLl.out]; exact hls)
          have f1 := HR.out.2.fro l
          rw [setg, if_pos ⟨rfl, by rw [HLl.out]; exact hls⟩] at q1
          have hkk := HR.out.1
          by_cases he : k = kc
          · have hne : (ks.getD k 0 == 0) = false := beq_eq_false_iff_ne.2 (by rw [he]; exact K2.out)
            have R5 : Hid (RwZ wr ob (L.set l (kc : Int))) := by rw [← he]; exact HR.out.2
            clear he HR f1
            generalize ks.getD k 0 = kv at *
            go_wp2_with (go_at_call 68; refine HKD.out.mono ?_; rintro e w5 ⟨rfl, hw5⟩; have hw6 := hw5.symm; clear hw5; subst hw6)
            go_meet
            exact ⟨R5, X5⟩
          · have hz0 := K3.out k (by omega)
            rw [hz0] at HKD
            have hwk : IntKind.i64.wrap ((k : Int) + 1) = ((k + 1 : Nat) : Int) := by simp [IntKind.wrap, IntKind.bits, IntKind.signed]; omega
            have R6 : Hid (RwZ (wr.setCell ⟨ob, l, none⟩ (.int .i64 ((k + 1 : Nat) : Int))) ob (L.set l ((k + 1 : Nat) : Int))) := by
              have := HR.out.2.set l ((k + 1 : Nat) : Int)
              rw [List.set_set] at this
              exact this
            have X6 := hide (X5.out.setCell (p := ⟨ob, l, none⟩) HOB.out (.int .i64 ((k + 1 : Nat) : Int)))
            have q6 := R6.out.cell (k := l) (by rw [List.length_set, HLl.out]; exact hls)
            rw [setg, if_pos ⟨rfl, by rw [HLl.out]; exact hls⟩] at q6
            have Q6 := hide q6
            have Q1 := hide q1
            have HKK : Hid (k + 1 ≤ kc) := by unfold Hid; omega
            clear HR hz0 hkk he q6
            generalize hj : ((k + 1 : Nat) : Int) = k1 at *
            go_wp2_with (go_at_call 68; refine HKD.out.mono ?_; rintro e w5 ⟨rfl, hw5⟩; have hw6 := hw5.symm; clear hw5; subst hw6)
            go_roundw
            case rel => exact ⟨k + 1, ⟨HKK.out, by rw [hj]; exact R6.out⟩, X6⟩
            case measure =>
              have h7 := HKK.out
              rw [Q6.out, Q1.out]
              simp [RowKit.intOf]
              omega
      obtain ⟨R7, X7⟩ := hcut
      obtain ⟨w7, hw7⟩ : ∃ w7, w7 = wc := ⟨_, rfl⟩
      subst hw7
      have q7 := R7.out.cell (k := l) (by rw [List.length_set, HLl.out]; exact hls)
      rw [setg, if_pos ⟨rfl, by rw [HLl.out]; exact hls⟩] at q7
      have HKD := hide (KD.out _ kc X7.out K1.out)
      have NX : Hid (hasR N (ks.getD kc 0) ∧ ks.getD kc 0 ≠ 0 ∧ ks.getD kc 0 < f' ∧ (∃ n L2, (ks.getD kc 0).toNat ≤ n ∧ pathF N n (ks.getD kc 0) L2 = pathF N f.toNat f (List.replicate S.length 0) ∧ L2.length = S.length ∧ (∀ j : Nat, lvl S N (ks.getD kc 0) ≤ (j : Int) → L2.getD j 0 = 0) ∧ RwZ w7 ob L2)) := by
        obtain ⟨c1, c2, c3⟩ := HNA.out.kid kc K1.out
        have e := HNA.out.lev
        refine ⟨⟨c1, by have := HF'.out.1.2; omega⟩, K2.out, c2, n', L.set l (kc : Int), by omega, by rw [← PN.out]; exact HP.out, by rw [List.length_set]; exact HLl.out, fun j hj => ?_, R7.out⟩
        rw [setg, if_neg (fun h => by omega)]
        exact HZ.out j (by omega)
      clear KD R7 PN HP HLl HZ RZ HNA K1 K2 K3 HF' XB HS0
      generalize ks.getD kc 0 = r at *
      go_wp2_with (go_at_call 68; refine HKD.out.mono ?_; rintro e w5 ⟨rfl, hw5⟩; have hw6 := hw5.symm; clear hw5; subst hw6)
      go_roundw
      case rel => exact ⟨r, rfl, ⟨NX.out.1, NX.out.2.1⟩, NX.out.2.2.2, X7⟩
      case measure => have h5 := NX.out; have h6 := h5.1.1; have h7 := h5.2.2.1; simp [RowKit.intOf]; omega
    · have h2' : ¬ (1 : Int) < f' := by omega
      have FIN : Hid (PthL S N f w (.returned (.tuple #[.slice (some ⟨ob, 0, none⟩) S.length S.length, .bool true, .int .i64 0])) wr) := by
        refine ⟨ob, rfl, HOB.out, L, ?_, HLl.out, RZ.out, XB.out⟩
        rw [← HP.out]
        cases n with
        | zero => rfl
        | succ n => rw [pathF, if_neg h2]
      go_wp2
      go_ret3
      exact FIN.out
end
end Go.Proofs.Ytaafeflbanoncaa
/-
  The statement's owned, walked: lists each in a block of its own are its owner's; nothing else is written. Condition: at most two million lists, each no longer than 8194.
-/
namespace Go.Proofs.Ytaafeflbanoncaa
open Go.RowKit Go.Lib

def mcI (i : Nat) : List Value := [.int .i64 (-5 - (i : Int))]
theorem mcI_len (i : Nat) : (mcI i).length = 1 := rfl
theorem appB {w w' : World} {v v' : Value} (h : AppAt w w' v v') : ∀ k, v'.ownBlock = some k → v.ownBlock = some k ∨ w.heap.size ≤ k := fun k hk => by
  rcases h with ⟨g, p1, p2, _⟩ | ⟨_, p2⟩
  · rw [p2] at hk
    exact .inl (p1.trans hk)
  · exact .inr (p2 k hk)
/-- All that was there, but for lists of D, is as it was. -/
def KpL (D : List LD) (w w' : World) : Prop := Kept (fun k => FutL D 0 k) w w'
theorem KpL.next {D : List LD} {w a b : World} {F : Nat → Prop} (h : KpL D w a) (k : Kept F a b) (hF : ∀ k, F k → FutL D 0 k ∨ w.heap.size ≤ k) : KpL D w b :=
  Kept.trans_new h k (fun i hi hf => (hF i hf).resolve_right (by omega))
theorem KpL.below {D : List LD} {w a b : World} (h : KpL D w a) (y : Below a.heap.size a b) : KpL D w b := Kept.trans h (Kept.of_below y)
set_option maxRecDepth 100000 in
set_option maxHeartbeats 4000000 in
theorem owned_any {w : World} {base wb a x : Nat} {lv : Value} {D : List LD} {X : Nat → List Value} (h : Wd w base wb a x lv D X) (hb : base ≤ w.heap.size) (hD : D.length ≤ 2000000) :
    Calls Try.prog 14 #[.pointer (some ⟨wb, 0, none⟩)] w fun e w' => e = .returned (.bool true) ∧ KpL D w w' := by
  obtain ⟨i3, hi3, hz30, hz31, hz32⟩ := info_parts Try.info3
  obtain ⟨i22, hi22, hy0, hy1, hy2⟩ := info_parts (show (Try.prog.info? 22).map (fun i => (i.zero, i.size, i.bytes)) = some (some (.slice none 0 0), 1, 24) by kernel_rfl)
  obtain ⟨la, lc, hlv, hlp⟩ := own_shape h.ls.row
  subst hlv
  have HLP := hide hlp
  have HWB : Hid (∀ V, KpL D w V → V.cell? ⟨wb, 2, none⟩ = some (.slice la D.length lc)) := fun V k => by
    have hwn : ¬ FutL D 0 wb := fun ⟨i, hi, _, hk⟩ => by
      obtain ⟨cs, h5⟩ := own_ty (h.ls.each i hi) _ hk
      exact blocks_ne h.blk h5 (by decide) rfl
    exact (show WBk V wb a x (.slice la D.length lc) from (k.block wb (lt_of_block h.blk) hwn).trans h.blk).cells.2.2
  have HN : Hid (∀ i (hi : i < D.length), (D[i]).n ≤ 8194) := fun i hi => h.few _ (List.getElem_mem hi)
  have M0 := hide (Mkg.start (mc := mcI) h.ls)
  clear h hlp
  go_enter Try.func14, Try.ntmps14
  go_wp2
  go_loopw [3] (fun y wr => ∃ i : Nat, i ≤ D.length ∧ y = .int .i64 i ∧ ∃ X, Hid (Mkg 22 3 1 mcI w base (.slice la D.length lc) D i 0 X wr)) (fun y _ => D.length - (RowKit.intOf y).toNat)
  case atStart => exact ⟨0, Nat.zero_le _, rfl, X, M0⟩
  case round =>
    obtain ⟨i, hi1, rfl, X1, M1⟩ := hrel
    clear M0
    have c1 := HWB.out wr M1.out.kd
    by_cases hlt : i < D.length
    · have hlt' : (i : Int) < D.length := by omega
      obtain ⟨lb, hlb⟩ := HLP.out (by omega)
      subst hlb
      have hnn := HN.out i hlt
      obtain ⟨ai, ci, hv, hpos⟩ := own_shape (M1.out.ls.each i hlt)
      have HV := hide hv
      have HPO := hide hpos
      clear hv hpos
      go_upto_block 2 with fail
      clear c1
      go_wp2
      go_loopw [4] (fun y wz => ∃ k : Nat, k ≤ (D[i]).n ∧ y = .int .i64 k ∧ ∃ X, Hid (Mkg 22 3 1 mcI w base (.slice (some ⟨lb, 0, none⟩) D.length lc) D i k X wz)) (fun y _ => (D[i]).n - (RowKit.intOf y).toNat)
      case atStart => exact ⟨0, Nat.zero_le _, rfl, X1, M1⟩
      case round =>
        rename World => wz
        obtain ⟨k, hk1, rfl, X2, M2⟩ := hrel
        clear M1
        have c1 := HWB.out wz M2.out.kd
        have c0 := own_cell1 M2.out.ls.row rfl hlt rfl
        rw [HV.out] at c0
        by_cases hk : k < (D[i]).n
        · obtain ⟨g, hg⟩ := HPO.out (by omega)
          subst hg
          have hh := M2.out.ls.each i hlt
          rw [HV.out] at hh
          have hl := hh.1
          obtain ⟨h3, h4⟩ := hh.stored k (.int .i64 (-5 - (i : Int)))
          obtain ⟨u, e1⟩ : ∃ u, wz.cell? ⟨g, k, none⟩ = some u := ⟨(X2 i)[k]'(by omega), by rw [hh.cellAt k (by omega)]; exact List.getElem?_eq_getElem _⟩
          have e2 := hh.frozenAt (g := g) k
          obtain ⟨X3, m3⟩ := M2.out.step mcI_len (by decide) hlt hk (w' := wz.setCell ⟨g, k, none⟩ (.int .i64 (-5 - (i : Int)))) (by rw [HV.out, Nat.mul_one]; exact h3) (by rw [HV.out]; exact kept_of_grown h4) hb
          have M3 := hide m3
          have hk' : (k : Int) < ((D[i]).n : Int) := by omega
          have fi : IntKind.i64.wrap (-5 - (i : Int)) = -5 - (i : Int) := by simp [IntKind.wrap, IntKind.bits, IntKind.signed]; omega
          clear m3 M2 h3 h4 hh hl
          generalize (D[i]).n = n at *
          go_wp2
          go_roundw
          case rel => exact ⟨k + 1, by omega, by go_num, X3, M3⟩
          case measure => simp [RowKit.intOf]; omega
        · have h8 : k = (D[i]).n := by omega
          have M3 : Hid (Mkg 22 3 1 mcI w base (.slice (some ⟨lb, 0, none⟩) D.length lc) D (i + 1) 0 X2 wz) := by have := M2.out; rw [h8] at this; exact Mkg.next mcI_len hlt this
          have hk' : ¬ (k : Int) < ((D[i]).n : Int) := by omega
          clear M2 h8
          generalize (D[i]).n = n at *
          go_wp2
          go_roundw
          case rel => exact ⟨i + 1, by omega, by go_num, X2, M3⟩
          case measure => simp [RowKit.intOf]; omega
    · have hlt' : ¬ (i : Int) < D.length := by omega
      have h8 : i = D.length := by omega
      have G1 : Hid (GrO 22 3 1 mcI wr base (.slice la D.length lc) (.slice none 0 0) D [] 0) := GrO.start (by have := M1.out; rw [h8] at this; exact this.out)
      have K1 : Hid (KpL D w wr) := M1.out.kd
      clear M1 h8
      go_upto_block 4 with fail
      clear c1
      go_wp2
      go_loopw [5, 6] (fun o y wz => ∃ i : Nat, i ≤ D.length ∧ y = .int .i64 i ∧ ∃ A, Hid (GrO 22 3 1 mcI wz base (.slice la D.length lc) o D A i) ∧ Hid (KpL D w wz) ∧ Hid (∀ k, o.ownBlock = some k → w.heap.size ≤ k)) (fun _ y _ => D.length - (RowKit.intOf y).toNat)
      case atStart => exact ⟨0, Nat.zero_le _, rfl, [], G1, K1, fun k hk => by cases hk⟩
      case round =>
        rename World => wz
        obtain ⟨i, hi1, rfl, A, G2, K2, Q2⟩ := hrel
        clear G1 K1
        have c1 := HWB.out wz K2.out
        by_cases hlt : i < D.length
        · have hlt' : (i : Int) < D.length := by omega
          obtain ⟨lb, hlb⟩ := HLP.out (by omega)
          subst hlb
          have hnn := HN.out i hlt
          have c0 := own_cell1 G2.out.row rfl hlt rfl
          have G3 := hide (G2.out.enter hlt)
          have U3 : Hid (∀ k, (D[i]).v.ownBlock = some k → FutL D 0 k ∨ w.heap.size ≤ k) := fun k hk => .inl ⟨i, hlt, Nat.zero_le _, hk⟩
          clear G2
          generalize (D[i]).n = n at *
          generalize (D[i]).v = xv at *
          have fi : IntKind.i64.wrap (-5 - (i : Int)) = -5 - (i : Int) := by simp [IntKind.wrap, IntKind.bits, IntKind.signed]; omega
          go_upto_block 6 with fail
          clear c0 c1
          go_wp2
          go_loopw [5, 7, 8] (fun o xx q wy => ∃ k : Nat, k ≤ 6 ∧ q = .int .i64 k ∧ ∃ A nx, nx ≤ n + k ∧ Hid (Gr 22 3 1 mcI wy base (.slice (some ⟨lb, 0, none⟩) D.length lc) o D A i k xx nx) ∧ Hid (KpL D w wy) ∧ Hid (∀ k, o.ownBlock = some k → w.heap.size ≤ k) ∧ Hid (∀ k, xx.ownBlock = some k → FutL D 0 k ∨ w.heap.size ≤ k)) (fun _ _ q _ => 6 - (RowKit.intOf q).toNat)
          case atStart => exact ⟨0, Nat.zero_le _, rfl, A, n, Nat.le_refl _, G3, K2, Q2, U3⟩
          case round =>
            rename World => wy
            obtain ⟨k, hk1, rfl, A4, nx, hnx, G4, K4, Q4, U4⟩ := hrel
            clear G3 K2 Q2 U3
            by_cases hk : k < 6
            · have hk' : (k : Int) < 6 := by omega
              obtain ⟨ax, cx, hx, _⟩ := own_shape G4.out.own
              subst hx
              have hlen := G4.out.len
              have hbK := Nat.le_trans hb K4.out.size
              have y5 : Below wy.heap.size wy (wy.alloc (.cells #[.slice ax nx cx] 22)) := al (Below.refl _ _) _
              have HG5 := hide (G4.out.below y5)
              have HK5 := hide (K4.out.below y5)
              have HS5 : Hid (base ≤ (wy.alloc (.cells #[.slice ax nx cx] 22)).heap.size) := Nat.le_trans hbK y5.size
              have HNX : Hid (nx + 1 ≤ 9000 ∧ A4.length ≤ 12000006) := ⟨by omega, by omega⟩
              clear G4 K4 hlen y5
              go_wp2_with (first
                | (at_builtin; refine wpList_append_view rfl (.tmp 63) (.tmp 65) 33 rfl base 22 i22 (.slice none 0 0) 1 24 Try.underlying33 hi22 hy0 hy1 hy2 rfl (by decide) _ A4.length (A4.map LD.v) rfl HG5.out.all ⟨wy.heap.size, 0, none⟩ 1 1 [.slice ax nx cx] rfl rfl (one_new wy _ _) (by simp [Value.oneCell']) (by decide) (by have := HNX.out.2; unfold maxLen; omega) (by have := HNX.out.2; omega) HS5.out ?_; intro v8 w8 h1 h2; obtain ⟨a8, c8, hv8, _⟩ := own_shape h1; subst hv8; have Q8 : Hid (∀ k, (Value.slice a8 (A4.length + 1) c8).ownBlock = some k → w.heap.size ≤ k) := (fun k hk => (appB h2 k hk).elim (Q4.out k) (Nat.le_trans HK5.out.size)); have HG6 := hide (HG5.out.push mcI_len (by decide) hk h1 h2); have HK6 : Hid (KpL D w w8) := HK5.out.next (appK h2) (fun k hk => .inr (Q4.out k hk)); have y6 : Below w8.heap.size w8 (w8.alloc (.cells #[.int .i64 (-5 - (i : Int))] 3)) := (al (Below.refl _ _) _); have HG7 := hide (HG6.out.below y6); have HK7 := hide (HK6.out.below y6); have HS7 : Hid (base ≤ (w8.alloc (.cells #[.int .i64 (-5 - (i : Int))] 3)).heap.size) := (Nat.le_trans hb HK7.out.size); clear h1 h2 HG5 HK5 HG6 HK6 y6 HS5)
                | (at_builtin; refine wpList_append_view rfl (.tmp 67) (.tmp 70) 22 rfl base 3 i3 (.int .i64 0) 1 8 Try.underlying22 hi3 hz30 hz31 hz32 rfl (by decide) _ nx (rep mcI i nx) rfl HG7.out.own ⟨w8.heap.size, 0, none⟩ 1 1 (mcI i) rfl rfl (one_new w8 _ _) (by simp [mcI, Value.oneCell']) (by decide) (by have := HNX.out.1; unfold maxLen; omega) (by have := HNX.out.1; omega) HS7.out ?_; intro v9 w9 h1 h2; obtain ⟨a9, c9, hv9, _⟩ := own_shape h1; subst hv9; have U9 : Hid (∀ k, (Value.slice a9 (nx + 1) c9).ownBlock = some k → FutL D 0 k ∨ w.heap.size ≤ k) := (fun k hk => (appB h2 k hk).elim (U4.out k) (fun h => .inr (Nat.le_trans HK7.out.size h))); have HG9 := hide (HG7.out.grow mcI_len (by decide) h1 h2); have HK9 : Hid (KpL D w w9) := HK7.out.next (appK h2) (fun k hk => U4.out k hk); clear h1 h2))
              go_roundw
              case rel => exact ⟨k + 1, by omega, by go_num, _, _, by omega, HG9, HK9, Q8, U9⟩
              case measure => simp [RowKit.intOf]; omega
            · have hk' : ¬ (k : Int) < 6 := by omega
              obtain rfl : k = 6 := by omega
              have G5 := hide G4.out.leave
              clear G4
              go_wp2
              go_roundw
              case rel => exact ⟨i + 1, by omega, by go_num, A4, G5, K4, Q4⟩
              case measure => simp [RowKit.intOf]; omega
        · have hlt' : ¬ (i : Int) < D.length := by omega
          obtain ⟨ao, co, ho, hpos⟩ := own_shape G2.out.all
          subst ho
          have hlen := G2.out.len
          have HPO := hide hpos
          clear hpos
          go_upto_block 8 with fail
          clear c1
          go_wp2
          go_loopw [9] (fun y wq => ∃ j : Nat, j ≤ A.length ∧ y = .int .i64 j ∧ Hid (wq = wz)) (fun y _ => A.length - (RowKit.intOf y).toNat)
          case atStart => exact ⟨0, Nat.zero_le _, rfl, rfl⟩
          case round =>
            rename World => wq
            obtain ⟨j, hj1, rfl, HW⟩ := hrel
            have hw := HW.out
            clear HW
            subst hw
            by_cases hlj : j < A.length
            · have hlj' : (j : Int) < A.length := by omega
              obtain ⟨lo, hlo⟩ := HPO.out (by omega)
              subst hlo
              have c0 := own_cell1 G2.out.all rfl hlj rfl
              have hvw := (G2.out.views j hlj).1
              have hnm := hvw.le
              unfold maxLen at hnm
              obtain ⟨av, cv, hv, hcs⟩ := hvw.shape
              rw [hv] at c0
              generalize (A[j]).n = n at *
              have HCS := hide hcs
              have HLJ : Hid (j + 1 ≤ A.length) := hlj
              clear hvw hv hcs
              go_wp2
              go_loopw [10] (fun y wp => ∃ k : Nat, k ≤ n ∧ y = .int .i64 k ∧ Hid (wp = wq)) (fun y _ => n - (RowKit.intOf y).toNat)
              case atStart => exact ⟨0, Nat.zero_le _, rfl, rfl⟩
              case round =>
                rename World => wp
                obtain ⟨k, hk1, rfl, HW⟩ := hrel
                have hw := HW.out.symm
                clear HW
                subst hw
                by_cases hk : k < n
                · have hk' : (k : Int) < n := by omega
                  obtain ⟨g, hg, hc⟩ := HCS.out.resolve_left (by omega)
                  subst hg
                  have d1 := hc k (by omega)
                  rw [Nat.mod_one] at d1
                  have e6 : (mcI (j / 6))[0]? = some (.int .i64 (-5 - ((j : Int) / 6))) := by simp [mcI]
                  rw [e6] at d1
                  have hq6 : (j : Int).tdiv 6 = (j : Int) / 6 := by rw [Int.tdiv_eq_ediv_of_nonneg (by omega)]
                  have fq : IntKind.i64.wrap (-5 - ((j : Int) / 6)) = -5 - ((j : Int) / 6) := by simp [IntKind.wrap, IntKind.bits, IntKind.signed]; omega
                  clear hc e6
                  go_wp2
                  go_roundw
                  case rel => exact ⟨k + 1, by omega, by go_num, by first | exact rfl | exact trivial⟩
                  case measure => simp [RowKit.intOf]; omega
                · have hk' : ¬ (k : Int) < n := by omega
                  go_wp2
                  go_roundw
                  case rel => exact ⟨j + 1, HLJ.out, by go_num, by first | exact rfl | exact trivial⟩
                  case measure => have := HLJ.out; simp [RowKit.intOf]; omega
            · have hlj' : ¬ (j : Int) < A.length := by omega
              go_wp2
              go_ret
              exact ⟨rfl, K2.out⟩
end Go.Proofs.Ytaafeflbanoncaa
