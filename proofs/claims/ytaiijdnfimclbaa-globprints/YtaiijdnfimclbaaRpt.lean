/-
  The document's Print by its contract. Condition: lists are no longer than a process can hold.
-/
import Derived.Test.YtaiijdnfimclbaaRpr
namespace Go.Proofs.Ytaiijdnfimclbaa
open Go.RowKit Go.Lib

theorem Rp.byte {p : Pc} (h : Rp p) (hk : p.kind = 1) : 32 ≤ p.b ∧ p.b ≤ 126 := by
  obtain ⟨k, b, no, S⟩ := p
  have hk' : k = 1 := hk
  subst hk'
  have := Rp_one.1 h
  exact ⟨this.1, this.2.1⟩
theorem Rp.spans {p : Pc} (h : Rp p) (hk : p.kind = 3) : ∀ s ∈ p.set, 32 ≤ s.1 ∧ s.1 ≤ s.2 ∧ s.2 ≤ 126 := by
  obtain ⟨k, b, no, S⟩ := p
  have hk' : k = 3 := hk
  subst hk'
  obtain ⟨_, h1, _, h3⟩ := Rp_set.1 h
  intro s hs
  have a := h3 s hs
  have b := h1.1 s hs
  unfold Bnd at b
  omega
set_option maxRecDepth 100000 in
set_option maxHeartbeats 8000000 in
theorem refPrint_any (ao : Option Addr) (cap : Nat) (D : List PD) (w : World) (hLen : ∀ d ∈ D, d.p.set.length ≤ 4294967296) (hat : PcAt w ao D) :
    Calls Try.prog 18 #[.slice ao D.length cap] w fun e w' => PrIs (D.map PD.p) e ∧ Below w.heap.size w w' := by
  have HR := hide (refRightP_any ao cap D w (fun d hd => by have := hLen d hd; omega) hat)
  have HAT := hide hat
  have HLEN := hide hLen
  clear hat hLen
  go_enter Try.func18, Try.ntmps18
  go_wp2_with (fail)
  refine HR.out.mono ?_
  rintro e w1 ⟨h1, x1⟩
  have X1 := hide x1
  clear x1
  rcases h1 with ⟨hp, rfl⟩ | ⟨hp, rfl⟩
  · have HRT := hide hp
    have hl : D.length ≤ 64 := by simpa using hp.1
    clear hp
    go_wp2
    go_loopw [5, 6] (fun y x wr => ∃ (k : Nat) (l : By), k ≤ D.length ∧ y = .string ⟨l.toArray⟩ ∧ x = .int .i64 k ∧ Hid (l = (D.take k).flatMap fun d => pcT d.p) ∧ Hid (Below w.heap.size w wr)) (fun _ x _ => D.length - (RowKit.intOf x).toNat)
    case atStart => exact ⟨0, [], Nat.zero_le _, rfl, rfl, by simp [Hid], X1⟩
    case round =>
      obtain ⟨k, l, hk, rfl, rfl, HL, X⟩ := hrel
      rename World => wr
      have hll : l.length ≤ 1374389536000 := by
        have h1 := prT_len HLEN.out k
        rw [← HL.out] at h1
        omega
      by_cases hlt : k < D.length
      · have hlt' : (k : Int) < (D.length : Int) := by omega
        rcases HAT.out with h | ⟨pb, off, rfl, hb, hc⟩
        · rw [h] at hlt; simp at hlt
        obtain ⟨p0, p1, p2, p3, p4⟩ := hc k hlt
        have hbw : pb < wr.heap.size := Nat.lt_of_lt_of_le hb X.out.size
        have r0 := (X.out.cell (p := ⟨pb, off + k * 4, none⟩) hb).trans p0
        have r1 := (X.out.cell (p := ⟨pb, off + k * 4 + 1, none⟩) hb).trans p1
        have r2 := (X.out.cell (p := ⟨pb, off + k * 4 + 2, none⟩) hb).trans p2
        have r3 := (X.out.cell (p := ⟨pb, off + k * 4 + 3, none⟩) hb).trans p3
        have P4 := hide (p4.below X.out)
        have HPL := hide (HLEN.out _ (List.getElem_mem hlt))
        have HP := hide (Rt_rp HRT.out k hlt)
        have HTK : Hid ((D.take (k + 1)).flatMap (fun d => pcT d.p) = l ++ pcT D[k].p) := by
          unfold Hid
          rw [List.take_succ_eq_append_getElem hlt, List.flatMap_append, List.flatMap_singleton, HL.out]
        obtain ⟨q1, hq1⟩ : ∃ q, Hid (q = l ++ pcT D[k].p) := ⟨_, hide rfl⟩
        have HF : Hid (q1 = (D.take (k + 1)).flatMap fun d => pcT d.p) := by unfold Hid; rw [HTK.out, hq1.out]
        have HE1 : Hid ((⟨l.toArray⟩ : ByteArray) ++ ⟨(pcT D[k].p).toArray⟩ = ⟨q1.toArray⟩) := by unfold Hid; rw [hq1.out]; exact cat_s _ _
        generalize D[k].p = q at *
        generalize D[k].so = ks at *
        generalize D[k].sc = kc at *
        obtain ⟨kd, kb, kn, S⟩ := q
        have hkd : kd = 1 ∨ kd = 2 ∨ kd = 3 ∨ kd = 4 ∨ kd = 5 := HP.out.kinds
        simp only at r0 r1 r2 r3
        clear hc p0 p1 p2 p3 p4 HTK hq1
        rcases hkd with rfl | rfl | rfl | rfl | rfl
        · have HC := hide (refEscaped_any kb [42, 63, 91, 92] wr (by decide) (HP.out.byte rfl).1 (HP.out.byte rfl).2)
          have HPC : Hid (pcT ⟨1, kb, kn, S⟩ = escL kb [42, 63, 91, 92]) := rfl
          rw [HPC.out] at HE1
          have n1 := escL_len kb [42, 63, 91, 92]
          have e1 := HE1.out
          generalize escL kb [42, 63, 91, 92] = E1 at *
          clear HPC HE1
          go_wp2_with (go_at_call 33; refine HC.out.mono ?_; rintro e w2 ⟨rfl, x2⟩; have X2 := hide (bt X.out x2 (Nat.le_refl _)); clear x2)
          go_roundw
          case rel => exact ⟨k + 1, q1, by omega, rfl, by go_num, HF, X2⟩
          case measure => simp [RowKit.intOf]; omega
        · have e1 : (⟨l.toArray⟩ : ByteArray) ++ ⟨#[63]⟩ = ⟨q1.toArray⟩ := HE1.out
          clear HE1
          go_wp2
          go_roundw
          case rel => exact ⟨k + 1, q1, by omega, rfl, by go_num, HF, X⟩
          case measure => simp [RowKit.intOf]; omega
        · have HC := hide (printed_any 3 kb kn ks kc S wr HPL.out (HP.out.spans rfl) P4.out)
          have HPC : Hid (pcT ⟨3, kb, kn, S⟩ = stT kn S) := rfl
          rw [HPC.out] at HE1
          have n1 := stT_len kn S
          have n2 : (stT kn S).length ≤ 21474836483 := by have := HPL.out; simp only at this; omega
          have e1 := HE1.out
          generalize stT kn S = E1 at *
          clear HPC HE1 n1
          go_wp2_with (go_at_call 34; refine HC.out.mono ?_; rintro e w2 ⟨rfl, x2⟩; have X2 := hide (bt X.out x2 (Nat.le_refl _)); clear x2)
          go_roundw
          case rel => exact ⟨k + 1, q1, by omega, rfl, by go_num, HF, X2⟩
          case measure => simp [RowKit.intOf]; omega
        · have e1 : (⟨l.toArray⟩ : ByteArray) ++ ⟨#[42]⟩ = ⟨q1.toArray⟩ := HE1.out
          clear HE1
          go_wp2
          go_roundw
          case rel => exact ⟨k + 1, q1, by omega, rfl, by go_num, HF, X⟩
          case measure => simp [RowKit.intOf]; omega
        · have e1 : (⟨l.toArray⟩ : ByteArray) ++ ⟨#[42, 42]⟩ = ⟨q1.toArray⟩ := HE1.out
          clear HE1
          go_wp2
          go_roundw
          case rel => exact ⟨k + 1, q1, by omega, rfl, by go_num, HF, X⟩
          case measure => simp [RowKit.intOf]; omega
      · have hnl : ¬ (k : Int) < (D.length : Int) := by omega
        have HF : Hid (prT (D.map PD.p) = l) := by unfold Hid; rw [HL.out, List.take_of_length_le (by omega), prT_map]
        go_wp2
        go_ret2
        exact ⟨.inl ⟨HRT.out, by rw [HF.out]; rfl⟩, X.out⟩
  · have HN := hide hp
    clear hp
    go_wp2
    go_ret2
    exact ⟨.inr ⟨HN.out, rfl⟩, X1.out⟩
end Go.Proofs.Ytaiijdnfimclbaa
