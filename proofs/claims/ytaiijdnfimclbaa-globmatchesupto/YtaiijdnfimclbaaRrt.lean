/-
  The document's Right of pieces by its contract. Condition: lists are no longer than a process can hold.
-/
import Derived.Test.YtaiijdnfimclbaaRst
namespace Go.Proofs.Ytaiijdnfimclbaa
open Go.RowKit Go.Lib

/-- What the document has found right. -/
structure RtQ (D : List PD) (k : Nat) : Prop where
  rp : ∀ j (h : j < D.length), j < k → Rp D[j].p
  adj : ∀ i (h : i + 1 < D.length), i < k → ¬ (D[i].p.kind = 4 ∧ manyK D[i + 1].p.kind = true)
theorem RtQ.zero (D : List PD) : RtQ D 0 := ⟨fun _ _ h => absurd h (Nat.not_lt_zero _), fun _ _ h => absurd h (Nat.not_lt_zero _)⟩
theorem RtQ.next {D : List PD} {k : Nat} (h : RtQ D k) (hk : k < D.length) (hp : Rp D[k].p) (ha : ∀ (hj : k + 1 < D.length), ¬ (D[k].p.kind = 4 ∧ manyK D[k + 1].p.kind = true)) : RtQ D (k + 1) := by
  refine ⟨fun j hj hlt => ?_, fun i hi hlt => ?_⟩
  · rcases Nat.lt_or_ge j k with h1 | h1
    · exact h.rp j hj h1
    · obtain rfl : j = k := by omega
      exact hp
  · rcases Nat.lt_or_ge i k with h1 | h1
    · exact h.adj i hi h1
    · obtain rfl : i = k := by omega
      exact ha hi
set_option maxRecDepth 100000 in
set_option maxHeartbeats 4000000 in
theorem refRightP_any (ao : Option Addr) (cap : Nat) (D : List PD) (w : World) (hLen : ∀ d ∈ D, d.p.set.length ≤ 140737488351232) (hat : PcAt w ao D) :
    Calls Try.prog 32 #[.slice ao D.length cap] w fun e w' => YesNo (Rt (D.map PD.p)) e ∧ Below w.heap.size w w' := by
  have HAT := hide hat
  have HLEN := hide hLen
  clear hat hLen
  by_cases hl : D.length ≤ 64
  · have hl' : ¬ (64 : Int) < (D.length : Int) := by omega
    go_enter Try.func32, Try.ntmps32
    go_wp2
    go_loopw [3] (fun x wr => ∃ k : Nat, k ≤ D.length ∧ x = .int .i64 k ∧ Hid (RtQ D k) ∧ Hid (Below w.heap.size w wr)) (fun x _ => D.length - (RowKit.intOf x).toNat)
    case atStart => exact ⟨0, Nat.zero_le _, rfl, RtQ.zero D, Below.refl _ _⟩
    case round =>
      obtain ⟨k, hk, rfl, S, X⟩ := hrel
      rename World => wr
      by_cases hlt : k < D.length
      · have hlt' : (k : Int) < (D.length : Int) := by omega
        rcases HAT.out with h | ⟨pb, off, rfl, hb, hc⟩
        · rw [h] at hlt; simp at hlt
        obtain ⟨p0, p1, p2, p3, p4⟩ := hc k hlt
        have hbw : pb < wr.heap.size := Nat.lt_of_lt_of_le hb X.out.size
        have r0 := (X.out.cell (p := ⟨pb, off + k * 4, none⟩) hb).trans p0
        have r1 := (X.out.cell (p := ⟨pb, off + k * 4 + 1, none⟩) hb).trans p1
        have r2 := (X.out.cell (p := ⟨pb, off + k * 4 + 2, none⟩) hb).trans p2
        have r3 := (X.out.cell (p := ⟨pb, off + k * 4 + 3, none⟩) hb).trans p3
        have P4 := hide (p4.below X.out)
        have HPL := hide (HLEN.out _ (List.getElem_mem hlt))
        have HNX := hide (fun hp ha => S.out.next hlt hp ha)
        have HNR : Hid (¬ Rp D[k].p → ¬ Rt (D.map PD.p)) := fun h1 h2 => h1 (Rt_rp h2 k hlt)
        have HNA : Hid (∀ (hj : k + 1 < D.length), D[k].p.kind = 4 → manyK D[k + 1].p.kind = true → ¬ Rt (D.map PD.p)) := fun hj h1 h2 h3 => Rt_adj h3 k hj ⟨h1, h2⟩
        have HCJ := hide (fun (hj : k + 1 < D.length) => hc (k + 1) hj)
        have HRP := hide (fun W (x : Below wr.heap.size wr W) => one_any D[k].p.kind D[k].p.b D[k].p.no D[k].so D[k].sc D[k].p.set W HPL.out (P4.out.below x))
        have HEP : Hid ((⟨D[k].p.kind, D[k].p.b, D[k].p.no, D[k].p.set⟩ : Pc) = D[k].p) := rfl
        generalize D[k].p = q at *
        generalize D[k].so = ks at *
        generalize D[k].sc = kc at *
        clear hc p0 p1 p2 p3 p4
        go_wp2_with (fail)
        refine (HRP.out _ (Below.refl _ _)).mono ?_
        rintro e w5 ⟨h5, x5⟩
        have X5 := hide x5
        have d0 := (x5.cell (p := ⟨pb, off + k * 4, none⟩) hbw).trans r0
        have XW := hide (bt X.out X5.out (Nat.le_refl _))
        clear x5 r0 r1 r2 r3
        rcases h5 with ⟨hp, rfl⟩ | ⟨hp, rfl⟩
        · have HP := hide hp
          clear hp
          by_cases h4 : q.kind = 4
          · by_cases hj : k + 1 < D.length
            · have hj' : (k : Int) + 1 < (D.length : Int) := by omega
              obtain ⟨p0, p1, p2, p3, p4⟩ := HCJ.out hj
              have hb5 : pb < w5.heap.size := Nat.lt_of_lt_of_le hb XW.out.size
              have s0 := (XW.out.cell (p := ⟨pb, off + (k + 1) * 4, none⟩) hb).trans p0
              have s1 := (XW.out.cell (p := ⟨pb, off + (k + 1) * 4 + 1, none⟩) hb).trans p1
              have s2 := (XW.out.cell (p := ⟨pb, off + (k + 1) * 4 + 2, none⟩) hb).trans p2
              have s3 := (XW.out.cell (p := ⟨pb, off + (k + 1) * 4 + 3, none⟩) hb).trans p3
              have HN1 := hide (HNA.out hj h4)
              have HN2 : Hid (¬ manyK D[k + 1].p.kind = true → RtQ D (k + 1)) := fun h => HNX.out HP.out (fun _ h2 => h h2.2)
              have HMN := hide (fun w => star_any D[k + 1].p.kind D[k + 1].p.b D[k + 1].p.no D[k + 1].so D[k + 1].p.set.length D[k + 1].sc w)
              generalize D[k + 1].p = q1 at *
              generalize D[k + 1].so = ks1 at *
              generalize D[k + 1].sc = kc1 at *
              rw [h4] at d0
              clear HNX HCJ HNA p0 p1 p2 p3 p4 h4
              cases hm : manyK q1.kind with
              | true =>
                have HF := hide (HN1.out hm)
                rw [hm] at HMN
                go_wp2_with (go_at_call 55; refine (HMN.out _).mono ?_; rintro e w6 ⟨rfl, x6⟩; have X6 := hide (bt XW.out x6 (Nat.le_refl _)); clear x6)
                go_ret
                exact ⟨.no HF.out rfl, X6.out⟩
              | false =>
                have S6 := hide (HN2.out (by rw [hm]; decide))
                rw [hm] at HMN
                go_wp2_with (go_at_call 55; refine (HMN.out _).mono ?_; rintro e w6 ⟨rfl, x6⟩; have X6 := hide (bt XW.out x6 (Nat.le_refl _)); clear x6)
                go_roundw
                case rel => exact ⟨k + 1, by omega, by go_num, S6, X6⟩
                case measure => simp [RowKit.intOf]; omega
            · have hj' : ¬ (k : Int) + 1 < (D.length : Int) := by omega
              have S6 := hide (HNX.out HP.out (fun h => absurd h hj))
              rw [h4] at d0
              clear HNX HCJ HNA h4
              go_wp2
              go_roundw
              case rel => exact ⟨k + 1, by omega, by go_num, S6, XW⟩
              case measure => simp [RowKit.intOf]; omega
          · have S6 := hide (HNX.out HP.out (fun _ h => h4 h.1))
            clear HNX HCJ HNA
            go_wp2
            go_roundw
            case rel => exact ⟨k + 1, by omega, by go_num, S6, XW⟩
            case measure => simp [RowKit.intOf]; omega
        · have HF := hide (HNR.out hp)
          clear hp
          go_wp2
          go_ret
          exact ⟨.no HF.out rfl, XW.out⟩
      · have hnl : ¬ (k : Int) < (D.length : Int) := by omega
        have HY : Hid (Rt (D.map PD.p)) := Rt_of hl (fun j hj => S.out.rp j hj (by omega)) (fun i hi => S.out.adj i hi (by omega))
        go_wp2
        go_ret
        exact ⟨.yes HY.out rfl, X.out⟩
  · have hl' : (64 : Int) < (D.length : Int) := by omega
    have HN : Hid (¬ Rt (D.map PD.p)) := fun h => hl (by simpa using h.1)
    go_enter Try.func32, Try.ntmps32
    go_wp2
    go_ret
    exact ⟨.no HN.out rfl, Below.refl _ _⟩
end Go.Proofs.Ytaiijdnfimclbaa
