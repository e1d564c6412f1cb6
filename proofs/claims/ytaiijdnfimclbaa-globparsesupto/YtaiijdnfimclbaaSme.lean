/-
  The statements' same, of the same pieces, walked. Condition: lists are no longer than a process can hold.
-/
import Derived.Test.YtaiijdnfimclbaaPta
namespace Go.Proofs.Ytaiijdnfimclbaa
open Go.RowKit Go.Lib

set_option maxRecDepth 100000 in
set_option maxHeartbeats 8000000 in
theorem same_any (a1 a2 : Option Addr) (c1 c2 : Nat) (D1 D2 : List PD) (w : World) (hl : D1.length ≤ 140737488351232) (hLen : ∀ d ∈ D1, d.p.set.length ≤ 140737488351232) (he : D1.map PD.p = D2.map PD.p) (h1 : PcAt w a1 D1) (h2 : PcAt w a2 D2) :
    Calls Try.prog 12 #[.slice a1 D1.length c1, .slice a2 D2.length c2] w fun e w' => e = .returned (.bool true) ∧ Below w.heap.size w w' := by
  have hll : D1.length = D2.length := by have := congrArg List.length he; simpa using this
  have HE := hide he
  have H1 := hide h1
  have H2 := hide h2
  have HLEN := hide hLen
  obtain ⟨n, hn⟩ : ∃ n, Hid (n = D1.length) := ⟨_, rfl⟩
  have hn2 : Hid (n = D2.length) := hn.out.trans hll
  rw [← hn.out, ← hn2.out]
  have hnl : n ≤ 140737488351232 := by rw [hn.out]; exact hl
  clear he h1 h2 hLen hll hl
  go_enter Try.func12, Try.ntmps12
  go_wp2
  go_loopw [5] (fun x wr => ∃ k : Nat, k ≤ n ∧ x = .int .i64 k ∧ Hid (Below w.heap.size w wr)) (fun x _ => n - (RowKit.intOf x).toNat)
  case atStart => exact ⟨0, Nat.zero_le _, rfl, Below.refl _ _⟩
  case round =>
    obtain ⟨k, hk, rfl, X⟩ := hrel
    rename World => wr
    by_cases hlt : k < n
    · have hlt' : (k : Int) < (n : Int) := by omega
      have hk1 : k < D1.length := by rw [← hn.out]; exact hlt
      have hk2 : k < D2.length := by rw [← hn2.out]; exact hlt
      rcases H1.out with h | ⟨b1, o1, rfl, hb1, hc1⟩
      · rw [h] at hk1; simp at hk1
      rcases H2.out with h | ⟨b2, o2, rfl, hb2, hc2⟩
      · rw [h] at hk2; simp at hk2
      have hpe : D2[k].p = D1[k].p := by
        have h3 := getD_mapz D1 k hk1
        rw [HE.out, getD_mapz D2 k hk2] at h3
        exact h3
      obtain ⟨p0, p1, p2, p3, p4⟩ := hc1 k hk1
      obtain ⟨q0, q1, q2, q3, q4⟩ := hc2 k hk2
      rw [hpe] at q0 q1 q2 q3 q4
      have HPL := hide (HLEN.out _ (List.getElem_mem hk1))
      have HCE : Hid (∀ W, Below w.heap.size w W → (W.cell? ⟨b1, o1 + k * 4, none⟩ = some (.int .i64 D1[k].p.kind) ∧ W.cell? ⟨b1, o1 + k * 4 + 1, none⟩ = some (.int .i64 D1[k].p.b) ∧ W.cell? ⟨b1, o1 + k * 4 + 2, none⟩ = some (.bool D1[k].p.no) ∧ W.cell? ⟨b1, o1 + k * 4 + 3, none⟩ = some (.slice D1[k].so D1[k].p.set.length D1[k].sc)) ∧ (W.cell? ⟨b2, o2 + k * 4, none⟩ = some (.int .i64 D1[k].p.kind) ∧ W.cell? ⟨b2, o2 + k * 4 + 1, none⟩ = some (.int .i64 D1[k].p.b) ∧ W.cell? ⟨b2, o2 + k * 4 + 2, none⟩ = some (.bool D1[k].p.no) ∧ W.cell? ⟨b2, o2 + k * 4 + 3, none⟩ = some (.slice D2[k].so D1[k].p.set.length D2[k].sc))) := fun W x =>
        ⟨⟨(x.cell (p := ⟨b1, _, none⟩) hb1).trans p0, (x.cell (p := ⟨b1, _, none⟩) hb1).trans p1, (x.cell (p := ⟨b1, _, none⟩) hb1).trans p2, (x.cell (p := ⟨b1, _, none⟩) hb1).trans p3⟩, ⟨(x.cell (p := ⟨b2, _, none⟩) hb2).trans q0, (x.cell (p := ⟨b2, _, none⟩) hb2).trans q1, (x.cell (p := ⟨b2, _, none⟩) hb2).trans q2, (x.cell (p := ⟨b2, _, none⟩) hb2).trans q3⟩⟩
      have S1 := hide p4
      have S2 := hide q4
      clear p0 p1 p2 p3 p4 q0 q1 q2 q3 q4 hpe hc1 hc2
      generalize D1[k].p = q at *
      generalize D1[k].so = s1 at *
      generalize D1[k].sc = e1 at *
      generalize D2[k].so = s2 at *
      generalize D2[k].sc = e2 at *
      obtain ⟨kd, kb, kn, kS⟩ := q
      simp only at HCE S1 S2 HPL
      obtain ⟨⟨r0, r1, r2, r3⟩, ⟨t0, t1, t2, t3⟩⟩ := HCE.out wr X.out
      have hkS := HPL.out
      go_wp2
      go_quiet (fail)
      have X2 := hide (X.out.trans (below_drewN _ wr nq))
      clear r0 r1 r2 r3 t0 t1 t2 t3
      generalize wr.drewN nq = W at *
      go_wp2
      go_loopw [6] (fun x wq => ∃ j : Nat, j ≤ kS.length ∧ x = .int .i64 j ∧ Hid (Below w.heap.size w wq)) (fun x _ => kS.length - (RowKit.intOf x).toNat)
      case atStart => exact ⟨0, Nat.zero_le _, rfl, X2⟩
      case round =>
        obtain ⟨j, hj, rfl, Y⟩ := hrel
        rename World => wq
        obtain ⟨⟨_, _, _, r3⟩, ⟨_, _, _, t3⟩⟩ := HCE.out wq Y.out
        by_cases hjl : j < kS.length
        · have hjl' : (j : Int) < (kS.length : Int) := by omega
          obtain ⟨g1, f1, rfl, hg1, hd1⟩ := S1.out.get hjl
          obtain ⟨g2, f2, rfl, hg2, hd2⟩ := S2.out.get hjl
          obtain ⟨u1, u2⟩ := (hd1 j hjl).below Y.out hg1
          obtain ⟨v1, v2⟩ := (hd2 j hjl).below Y.out hg2
          generalize kS.getD j (0, 0) = sp at *
          clear hd1 hd2
          go_wp2
          go_quiet (fail)
          go_wp2
          go_roundw
          case rel => exact ⟨j + 1, by omega, by go_num, Y.out.trans (below_drewN _ _ _)⟩
          case measure => simp [RowKit.intOf]; omega
        · have hjn : ¬ (j : Int) < (kS.length : Int) := by omega
          go_wp2
          go_roundw
          case rel => exact ⟨k + 1, by omega, by go_num, Y⟩
          case measure => simp [RowKit.intOf]; omega
    · have hnl' : ¬ (k : Int) < (n : Int) := by omega
      go_wp2
      go_ret
      exact ⟨rfl, X.out⟩
end Go.Proofs.Ytaiijdnfimclbaa
