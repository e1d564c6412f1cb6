/-
  right by its contract. Condition: lists are no longer than a process can hold.
-/
import Derived.Test.YthgikaklcglpiaaGreatDoorP18
namespace Go.Proofs.YthgikaklcglpiaaGreatDoor.L5
open Go.RowKit Go.Lib

def zPc : Pc := ⟨0, 0, false, []⟩
/-- Pieces are right. -/
def Rt (L : List Pc) : Prop := L.length ≤ 64 ∧ (∀ p ∈ L, Rp p) ∧ ∀ i, i + 1 < L.length → ¬ ((L.getD i zPc).kind = 4 ∧ manyK (L.getD (i + 1) zPc).kind = true)
theorem getD_mapz (D : List PD) (k : Nat) (h : k < D.length) : ((D.map PD.p).getD k zPc) = D[k].p := by simp [List.getD_eq_getElem?_getD, h]
theorem Rt_of {D : List PD} (h1 : D.length ≤ 64) (h2 : ∀ k (h : k < D.length), Rp D[k].p) (h3 : ∀ i (h : i + 1 < D.length), ¬ (D[i].p.kind = 4 ∧ manyK D[i + 1].p.kind = true)) : Rt (D.map PD.p) := by
  refine ⟨by simpa using h1, fun p hp => ?_, fun i hi => ?_⟩
  · obtain ⟨d, hd, rfl⟩ := List.mem_map.1 hp
    obtain ⟨i, hi, rfl⟩ := List.getElem_of_mem hd
    exact h2 i hi
  · rw [List.length_map] at hi
    rw [getD_mapz D i (by omega), getD_mapz D (i + 1) hi]
    exact h3 i hi
theorem Rt_rp {D : List PD} (h : Rt (D.map PD.p)) (k : Nat) (hk : k < D.length) : Rp D[k].p := h.2.1 _ (List.mem_map.2 ⟨_, List.getElem_mem hk, rfl⟩)
theorem Rt_adj {D : List PD} (h : Rt (D.map PD.p)) (i : Nat) (hi : i + 1 < D.length) : ¬ (D[i].p.kind = 4 ∧ manyK D[i + 1].p.kind = true) := by
  have := h.2.2 i (by rwa [List.length_map])
  rwa [getD_mapz D i (by omega), getD_mapz D (i + 1) hi] at this
/-- What has been found right. -/
structure RtS (D : List PD) (k : Nat) : Prop where
  rp : ∀ j (h : j < D.length), j < k → Rp D[j].p
  adj : ∀ i (h : i + 1 < D.length), i + 1 < k → ¬ (D[i].p.kind = 4 ∧ manyK D[i + 1].p.kind = true)
theorem RtS.zero (D : List PD) : RtS D 0 := ⟨fun _ _ h => absurd h (Nat.not_lt_zero _), fun _ _ h => absurd h (Nat.not_lt_zero _)⟩
theorem RtS.next {D : List PD} {k : Nat} (h : RtS D k) (hk : k < D.length) (hp : Rp D[k].p) (ha : ∀ j (hj : j + 1 = k), ¬ ((D[j]'(by omega)).p.kind = 4 ∧ manyK D[k].p.kind = true)) : RtS D (k + 1) := by
  refine ⟨fun j hj hlt => ?_, fun i hi hlt => ?_⟩
  · rcases Nat.lt_or_ge j k with h1 | h1
    · exact h.rp j hj h1
    · obtain rfl : j = k := by omega
      exact hp
  · rcases Nat.lt_or_ge (i + 1) k with h1 | h1
    · exact h.adj i hi h1
    · obtain rfl : i + 1 = k := by omega
      exact ha i rfl
set_option maxRecDepth 100000 in
set_option maxHeartbeats 4000000 in
theorem rightL_any (ao : Option Addr) (cap : Nat) (D : List PD) (w : World) (hLen : ∀ d ∈ D, d.p.set.length ≤ 140737488351232) (hat : PcAt w ao D) :
    Calls Tryz.prog 110 #[.slice ao D.length cap] w fun e w' => YesNo (Rt (D.map PD.p)) e ∧ Below w.heap.size w w' := by
  have HAT := hide hat
  have HLEN := hide hLen
  clear hat hLen
  by_cases hl : D.length ≤ 64
  · have hl' : ¬ (64 : Int) < (D.length : Int) := by omega
    go_enter Tryz.func110, Tryz.ntmps110
    go_wp2
    go_loopw [10] (fun x wr => ∃ k : Nat, k ≤ D.length ∧ x = .int .i64 k ∧ Hid (RtS D k) ∧ Hid (Below w.heap.size w wr)) (fun x _ => D.length - (RowKit.intOf x).toNat)
    case atStart => exact ⟨0, Nat.zero_le _, rfl, RtS.zero D, Below.refl _ _⟩
    case round =>
      obtain ⟨k, hk, rfl, S, X⟩ := hrel
      rename World => wr
      by_cases hlt : k < D.length
      · have hlt' : (k : Int) < (D.length : Int) := by omega
        rcases HAT.out with h | ⟨pb, off, rfl, hb, hc⟩
        · rw [h] at hlt; simp at hlt
        obtain ⟨p0, p1, p2, p3, p4⟩ := hc k hlt
        have hbw : pb < wr.heap.size := Nat.lt_of_lt_of_le hb X.out.size
        have r0 := (X.out.cell (p := ⟨pb, off + k * 4, none⟩) hb).trans p0
        have r1 := (X.out.cell (p := ⟨pb, off + k * 4 + 1, none⟩) hb).trans p1
        have r2 := (X.out.cell (p := ⟨pb, off + k * 4 + 2, none⟩) hb).trans p2
        have r3 := (X.out.cell (p := ⟨pb, off + k * 4 + 3, none⟩) hb).trans p3
        have P4 := hide (p4.below X.out)
        have HPL := hide (HLEN.out _ (List.getElem_mem hlt))
        have HNX := hide (fun hp ha => S.out.next hlt hp ha)
        have HNR : Hid (¬ Rp D[k].p → ¬ Rt (D.map PD.p)) := fun h1 h2 => h1 (Rt_rp h2 k hlt)
        have HNA : Hid (∀ j (hj : j + 1 = k), (D[j]'(by omega)).p.kind = 4 → manyK D[k].p.kind = true → ¬ Rt (D.map PD.p)) := fun j hj h1 h2 h3 => by
          subst hj
          exact Rt_adj h3 j hlt ⟨h1, h2⟩
        have HCJ : Hid (∀ j (hj : j + 1 = k) W, Below wr.heap.size wr W → W.cell? ⟨pb, off + j * 4, none⟩ = some (.int .i64 (D[j]'(by omega)).p.kind)) := fun j hj W x => (x.cell (p := ⟨pb, off + j * 4, none⟩) hbw).trans ((X.out.cell (p := ⟨pb, off + j * 4, none⟩) hb).trans (hc j (by omega)).1)
        have HRP := hide (fun W (x : Below wr.heap.size wr W) => rightPiece_any D[k].p.kind D[k].p.b D[k].p.no D[k].so D[k].sc D[k].p.set W HPL.out (P4.out.below x))
        have HMN := hide (fun w => many_any D[k].p.kind D[k].p.b D[k].p.no D[k].so D[k].p.set.length D[k].sc w)
        have HEP : Hid ((⟨D[k].p.kind, D[k].p.b, D[k].p.no, D[k].p.set⟩ : Pc) = D[k].p) := rfl
        generalize D[k].p = q at *
        generalize D[k].so = ks at *
        generalize D[k].sc = kc at *
        have X4 := hide (al (Below.refl wr.heap.size wr) (.cells #[.int .i64 q.kind, .int .i64 q.b, .bool q.no, .slice ks q.set.length kc] 83))
        have B4 := hide (heap_alloc_new wr (.cells #[.int .i64 q.kind, .int .i64 q.b, .bool q.no, .slice ks q.set.length kc] 83))
        clear hc p0 p1 p2 p3 p4
        go_wp2_with (fail)
        refine (HRP.out _ X4.out).mono ?_
        rintro e w5 ⟨h5, x5⟩
        have X5 := hide (bt X4.out x5 (Nat.le_refl _))
        have B5 := hide ((x5.block _ (lt_of_block B4.out)).trans B4.out)
        have XW := hide (bt X.out X5.out (Nat.le_refl _))
        clear x5 r0 r1 r2 r3
        rcases h5 with ⟨hp, rfl⟩ | ⟨hp, rfl⟩
        · have HP := hide hp
          clear hp
          by_cases hk0 : k = 0
          · subst hk0
            have S6 := hide (HNX.out HP.out (fun j hj => by omega))
            go_wp2
            go_roundw
            case rel => exact ⟨1, by omega, by go_num, S6, XW⟩
            case measure => simp [RowKit.intOf]; omega
          · obtain ⟨j, hj⟩ : ∃ j, j + 1 = k := ⟨k - 1, by omega⟩
            have hk1 : (0 : Int) < (k : Int) := by omega
            have hw1 : (k : Int) - 1 = (j : Int) := by omega
            have hjl : (j : Int) < (D.length : Int) := by omega
            have cj := HCJ.out j hj w5 X5.out
            have HJ := hide hj
            have HNA' := hide (HNA.out j hj)
            have HNX' : Hid (¬ ((D[j]'(by omega)).p.kind = 4 ∧ manyK q.kind = true) → RtS D (k + 1)) := fun h => HNX.out HP.out (fun j' hj' => by
              obtain rfl : j' = j := by omega
              exact h)
            obtain ⟨d0, d1, d2, d3⟩ := cells4 B5.out
            generalize (D[j]'(by omega)).p.kind = jk at cj HNA' HNX'
            clear hj HNX HCJ HNA
            by_cases h4 : jk = 4
            · subst h4
              cases hm : manyK q.kind with
              | true =>
                have HF := hide (HNA'.out rfl hm)
                rw [hm] at HMN
                go_wp2_with (go_at_call 162; refine (HMN.out _).mono ?_; rintro e w6 ⟨rfl, x6⟩; have X6 := hide (bt XW.out x6 (Nat.le_refl _)); clear x6)
                go_ret
                exact ⟨.no HF.out rfl, X6.out⟩
              | false =>
                have S6 := hide (HNX'.out (fun h => by rw [hm] at h; exact absurd h.2 (by decide)))
                rw [hm] at HMN
                go_wp2_with (go_at_call 162; refine (HMN.out _).mono ?_; rintro e w6 ⟨rfl, x6⟩; have X6 := hide (bt XW.out x6 (Nat.le_refl _)); clear x6)
                go_roundw
                case rel => exact ⟨k + 1, by omega, by go_num, S6, X6⟩
                case measure => simp [RowKit.intOf]; omega
            · have S6 := hide (HNX'.out (fun h => h4 h.1))
              go_wp2
              go_roundw
              case rel => exact ⟨k + 1, by omega, by go_num, S6, XW⟩
              case measure => simp [RowKit.intOf]; omega
        · have HF := hide (HNR.out hp)
          clear hp
          go_wp2
          go_ret
          exact ⟨.no HF.out rfl, XW.out⟩
      · have hnl : ¬ (k : Int) < (D.length : Int) := by omega
        have HY : Hid (Rt (D.map PD.p)) := Rt_of hl (fun j hj => S.out.rp j hj (by omega)) (fun i hi => S.out.adj i hi (by omega))
        go_wp2
        go_ret
        exact ⟨.yes HY.out rfl, X.out⟩
  · have hl' : (64 : Int) < (D.length : Int) := by omega
    have HN : Hid (¬ Rt (D.map PD.p)) := fun h => hl (by simpa using h.1)
    go_enter Tryz.func110, Tryz.ntmps110
    go_wp2
    go_ret
    exact ⟨.no HN.out rfl, Below.refl _ _⟩
end Go.Proofs.YthgikaklcglpiaaGreatDoor.L5
