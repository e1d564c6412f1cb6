/-
  The document's spans, method, HeaderName by their contracts. Condition: texts and lists no longer than a process can hold.
-/
import Derived.Test.YthgikaklcglpiaaGreatDoorP23
import Derived.Laws.RangeAny
namespace Go.Proofs.YthgikaklcglpiaaGreatDoor.L5
open Go.RowKit Go.Lib

set_option maxRecDepth 100000 in
set_option maxHeartbeats 2000000 in
theorem spansD_any (ao bo : Option Addr) (ac bc : Nat) (A B : List Spn) (w : World) (hl : A.length ≤ 140737488351232) (ha : SpAt w ao A) (hb : SpAt w bo B) :
    Calls Tryz.prog 40 #[.slice ao A.length ac, .slice bo B.length bc] w fun e w' => e = .returned (.bool (decide (A = B))) ∧ Below w.heap.size w w' := by
  by_cases h1 : A.length = B.length
  · have h1' : (A.length : Int) = (B.length : Int) := by omega
    have b1 : ((A.length : Int) != (B.length : Int)) = false := by simp; omega
    have H1 := hide h1
    have HA := hide ha
    have HB := hide hb
    clear h1 ha hb
    go_enter Tryz.func40, Tryz.ntmps40
    go_wp2
    go_loopg [5] (A.length + 1) (fun g x wr => ∃ k : Nat, x = .int .i64 (k : Nat) ∧ k ≤ A.length ∧ Hid (∀ j, j < k → A.getD j (0, 0) = B.getD j (0, 0)) ∧ Hid (Below w.heap.size w wr) ∧ A.length - k < g)
    case atStart => exact ⟨0, rfl, by omega, hide fun j hj => by omega, hide (Below.refl _ _), by omega⟩
    case round =>
      obtain ⟨k, rfl, hk1, HE, X, hg⟩ := hrel
      have HG := hide hg
      clear hg
      by_cases hk : k < A.length
      · have hk' : (k : Int) < (A.length : Int) := by omega
        have hkb : k < B.length := by have := H1.out; omega
        have hkb' : (k : Int) < (B.length : Int) := by omega
        obtain ⟨pa, oa, rfl, _, ca⟩ := (HA.out.below X.out).get hk
        obtain ⟨pb, ob, rfl, _, cb⟩ := (HB.out.below X.out).get hkb
        obtain ⟨a0, a1⟩ := ca k hk
        obtain ⟨b0, b2⟩ := cb k hkb
        clear ca cb
        have HK := hide hk
        clear hkb hk
        obtain ⟨x, hx⟩ : ∃ x, x = A.getD k (0, 0) := ⟨_, rfl⟩
        obtain ⟨y, hy⟩ : ∃ y, y = B.getD k (0, 0) := ⟨_, rfl⟩
        rw [← hx] at a0 a1
        rw [← hy] at b0 b2
        have HXX := hide hx
        have HYY := hide hy
        clear hx hy
        obtain ⟨x1, x2⟩ := x
        obtain ⟨y1, y2⟩ := y
        simp only at a0 a1 b0 b2
        have heq := eq75 x1 x2 y1 y2
        cases hxy : (x1 == y1 && x2 == y2) with
        | true =>
          rw [hxy] at heq
          have HXY := hide hxy
          clear hxy
          go_wp2
          go_quiet (fail)
          have X6 : Hid (Below w.heap.size w (wr.drewN nq)) := X.out.trans ⟨rfl, rfl, rfl, Nat.le_refl _, fun _ _ => rfl⟩
          go_wp2
          go_roundg (A.length - (k + 1) + 1)
          case measure => have := HG.out; have := HK.out; omega
          case rel => exact ⟨k + 1, by first | rfl | go_num | (congr 1; omega), by have := HK.out; omega, hide fun j hj => by
            by_cases e : j = k
            · rw [e, ← HXX.out, ← HYY.out]
              have := HXY.out
              rw [Bool.and_eq_true, beq_iff_eq, beq_iff_eq] at this
              rw [this.1, this.2]
            · exact HE.out j (by omega), X6, by omega⟩
        | false =>
          rw [hxy] at heq
          have HXY := hide hxy
          clear hxy
          go_wp2
          go_quiet (fail)
          have X6 : Hid (Below w.heap.size w (wr.drewN nq)) := X.out.trans ⟨rfl, rfl, rfl, Nat.le_refl _, fun _ _ => rfl⟩
          go_wp2
          go_ret
          have hne : ¬ A = B := fun h => by
            have h3 := HXX.out
            rw [h, ← HYY.out] at h3
            injection h3 with h3 h4
            have := HXY.out
            rw [h3, h4] at this
            simp at this
          exact ⟨by rw [decide_eq_false hne]; rfl, X6.out⟩
      · have hk' : ¬ (k : Int) < (A.length : Int) := by omega
        go_wp2
        go_ret
        exact ⟨by rw [decide_eq_true (gD_ext (0, 0) H1.out (fun j hj => HE.out j (by omega)))]; rfl, X.out⟩
  · have h1' : ¬ (A.length : Int) = (B.length : Int) := by omega
    have b1 : ((A.length : Int) != (B.length : Int)) = true := by simp; omega
    have H1 := hide h1
    clear h1
    go_enter Tryz.func40, Tryz.ntmps40
    go_wp2
    go_ret
    exact ⟨by rw [decide_eq_false (fun h => H1.out (by rw [h]))]; rfl, Below.refl _ _⟩
set_option maxRecDepth 100000 in
theorem gr_is (b : UInt8) : grL.contains b = (decide (65 ≤ b.toNat) && decide (b.toNat ≤ 90)) := by
  have h : ∀ n : Fin 256, grL.contains (UInt8.ofNat n.1) = (decide (65 ≤ n.1) && decide (n.1 ≤ 90)) := by decide
  have := h ⟨b.toNat, b.toNat_lt⟩
  simpa using this
set_option maxRecDepth 100000 in
theorem hn_is (b : UInt8) : hnL.contains b = ((decide (97 ≤ b.toNat) && decide (b.toNat ≤ 122)) || ((decide (48 ≤ b.toNat) && decide (b.toNat ≤ 57)) || decide (b.toNat = 45))) := by
  have h : ∀ n : Fin 256, hnL.contains (UInt8.ofNat n.1) = ((decide (97 ≤ n.1) && decide (n.1 ≤ 122)) || ((decide (48 ≤ n.1) && decide (n.1 ≤ 57)) || decide (n.1 = 45))) := by decide
  have := h ⟨b.toNat, b.toNat_lt⟩
  simpa using this
theorem mdB_no {s may : By} {most : Int} {j : Nat} (hj : j < s.length) (h : may.contains s[j] = false) : mdB s may most = false := by
  unfold mdB
  have : s.all (may.contains ·) = false := by
    cases e : s.all (may.contains ·) with
    | false => rfl
    | true => rw [List.all_eq_true.1 e _ (List.getElem_mem hj)] at h; cases h
  rw [this, Bool.and_false, Bool.and_false]
theorem mdB_all {s may : By} {most : Int} (h : ∀ j (hj : j < s.length), may.contains s[j] = true) : mdB s may most = (!s.isEmpty && decide ((s.length : Int) ≤ most)) := by
  unfold mdB
  have : s.all (may.contains ·) = true := List.all_eq_true.2 fun b hb => by
    obtain ⟨j, hj, rfl⟩ := List.getElem_of_mem hb
    exact h j hj
  rw [this, Bool.and_true]
set_option maxRecDepth 100000 in
set_option maxHeartbeats 2000000 in
theorem methodD_any (s : By) (w : World) (hs : s.length ≤ 140737488351232) : Calls Tryz.prog 87 #[.string ⟨s.toArray⟩] w fun e w' => e = .returned (.bool (mdB s grL 16)) ∧ Below w.heap.size w w' := by
  have hsz := size_by s
  go_enter Tryz.func87, Tryz.ntmps87
  go_wp2
  go_loopg [3] (s.length + 1) (fun g x wr => ∃ j : Nat, x = .int .i64 (j : Nat) ∧ j ≤ s.length ∧ Hid (∀ q (hq : q < s.length), q < j → grL.contains s[q] = true) ∧ wr = w ∧ s.length - j < g)
  case atStart => exact ⟨0, rfl, by omega, hide fun q hq h1 => by omega, rfl, by omega⟩
  case round =>
    obtain ⟨j, rfl, hj1, HR, hw, hg⟩ := hrel
    have HG := hide hg
    subst hw
    clear hg
    by_cases hj : j < s.length
    · have hj' : (j : Int) < (s.length : Int) := by omega
      have HJ := hide hj
      obtain ⟨y, hy⟩ : ∃ y, s[j] = y := ⟨_, rfl⟩
      have hgt : ∀ hk, (⟨s.toArray⟩ : ByteArray)[j]'hk = y := fun _ => hy
      have HY : Hid (∀ h : j < s.length, s[j] = y) := fun _ => hy
      have HNX : Hid (grL.contains y = true → ∀ q (hq : q < s.length), q < j + 1 → grL.contains s[q] = true) := fun h q hq h1 => by
        by_cases e : q = j
        · subst e; rw [HY.out hq]; exact h
        · exact HR.out q hq (by omega)
      have HNO : Hid (grL.contains y = false → mdB s grL 16 = false) := fun h => mdB_no HJ.out (by rw [HY.out HJ.out]; exact h)
      have f1 : wrap64 ((j : Int) + 1) = ((j + 1 : Nat) : Int) := by unfold wrap64; omega
      clear hy HR HY
      have HGI := hide (gr_is y)
      by_cases h1 : y.toNat < 65
      · have h1' : (y.toNat : Int) < 65 := by omega
        have HB := hide (HNO.out (by rw [HGI.out, decide_eq_false (by omega), Bool.false_and]))
        go_wp2
        go_ret
        exact ⟨by rw [HB.out]; rfl, Below.refl _ _⟩
      · have h1' : ¬ (y.toNat : Int) < 65 := by omega
        by_cases h2 : y.toNat ≤ 90
        · have h2' : ¬ (90 : Int) < (y.toNat : Int) := by omega
          go_wp2
          go_roundg (s.length - (j + 1) + 1)
          case measure => have := HG.out; have := HJ.out; omega
          case rel => exact ⟨j + 1, by first | rfl | (rw [f1]) | go_num | (congr 1; omega), by have := HJ.out; omega, hide (HNX.out (by rw [HGI.out, decide_eq_true (by omega), decide_eq_true (by omega)]; rfl)), rfl, by omega⟩
        · have h2' : (90 : Int) < (y.toNat : Int) := by omega
          have HB := hide (HNO.out (by rw [HGI.out, decide_eq_false h2, Bool.and_false]))
          go_wp2
          go_ret
          exact ⟨by rw [HB.out]; rfl, Below.refl _ _⟩
    · have hj' : ¬ (j : Int) < (s.length : Int) := by omega
      have HM := hide (mdB_all (most := 16) (fun q hq => HR.out q hq (by omega)))
      have hlen : s.isEmpty = decide (s.length = 0) := by cases s <;> simp
      rw [hlen] at HM
      clear HR
      by_cases h0 : s.length = 0
      · have h1 : ¬ (1 : Int) ≤ (s.length : Int) := by omega
        rw [decide_eq_true h0] at HM
        go_wp2
        go_ret
        exact ⟨by rw [HM.out]; rfl, Below.refl _ _⟩
      · have h1 : (1 : Int) ≤ (s.length : Int) := by omega
        rw [decide_eq_false h0] at HM
        by_cases h2 : (s.length : Int) ≤ 16
        · rw [decide_eq_true h2] at HM
          go_wp2
          go_ret
          exact ⟨by rw [HM.out]; rfl, Below.refl _ _⟩
        · rw [decide_eq_false h2] at HM
          have h3 : decide ((s.length : Int) ≤ 16) = false := decide_eq_false h2
          go_wp2
          go_ret
          exact ⟨by rw [HM.out]; first | rfl | simp [h3] | (simp; omega), Below.refl _ _⟩
set_option maxRecDepth 100000 in
set_option maxHeartbeats 2000000 in
theorem headerNameD_any (s : By) (w : World) (hs : s.length ≤ 140737488351232) : Calls Tryz.prog 50 #[.string ⟨s.toArray⟩] w fun e w' => e = .returned (.bool (mdB s hnL 32)) ∧ Below w.heap.size w w' := by
  have hsz := size_by s
  go_enter Tryz.func50, Tryz.ntmps50
  go_wp2
  go_loopg [3] (s.length + 1) (fun g x wr => ∃ j : Nat, x = .int .i64 (j : Nat) ∧ j ≤ s.length ∧ Hid (∀ q (hq : q < s.length), q < j → hnL.contains s[q] = true) ∧ wr = w ∧ s.length - j < g)
  case atStart => exact ⟨0, rfl, by omega, hide fun q hq h1 => by omega, rfl, by omega⟩
  case round =>
    obtain ⟨j, rfl, hj1, HR, hw, hg⟩ := hrel
    have HG := hide hg
    subst hw
    clear hg
    by_cases hj : j < s.length
    · have hj' : (j : Int) < (s.length : Int) := by omega
      have HJ := hide hj
      obtain ⟨y, hy⟩ : ∃ y, s[j] = y := ⟨_, rfl⟩
      have hgt : ∀ hk, (⟨s.toArray⟩ : ByteArray)[j]'hk = y := fun _ => hy
      have HY : Hid (∀ h : j < s.length, s[j] = y) := fun _ => hy
      have HNX : Hid (hnL.contains y = true → ∀ q (hq : q < s.length), q < j + 1 → hnL.contains s[q] = true) := fun h q hq h1 => by
        by_cases e : q = j
        · subst e; rw [HY.out hq]; exact h
        · exact HR.out q hq (by omega)
      have HNO : Hid (hnL.contains y = false → mdB s hnL 32 = false) := fun h => mdB_no HJ.out (by rw [HY.out HJ.out]; exact h)
      have f1 : wrap64 ((j : Int) + 1) = ((j + 1 : Nat) : Int) := by unfold wrap64; omega
      clear hy HR HY
      have HGI := hide (hn_is y)
      by_cases h1 : 97 ≤ y.toNat ∧ y.toNat ≤ 122
      · have a1 : (97 : Int) ≤ (y.toNat : Int) := by omega
        have a2 : (y.toNat : Int) ≤ 122 := by omega
        have a3 : (48 : Int) ≤ (y.toNat : Int) := by omega
        have a4 : ¬ (y.toNat : Int) ≤ 57 := by omega
        have HOK : Hid (hnL.contains y = true) := by unfold Hid; rw [HGI.out, decide_eq_true h1.1, decide_eq_true h1.2]; rfl
        clear h1
        go_wp2
        go_roundg (s.length - (j + 1) + 1)
        case measure => have := HG.out; have := HJ.out; omega
        case rel => exact ⟨j + 1, by first | rfl | (rw [f1]) | go_num | (congr 1; omega), by have := HJ.out; omega, hide (HNX.out HOK.out), rfl, by omega⟩
      · by_cases h2 : 48 ≤ y.toNat ∧ y.toNat ≤ 57
        · have a1 : ¬ (97 : Int) ≤ (y.toNat : Int) := by omega
          have a3 : (48 : Int) ≤ (y.toNat : Int) := by omega
          have a4 : (y.toNat : Int) ≤ 57 := by omega
          have HOK : Hid (hnL.contains y = true) := by unfold Hid; rw [HGI.out, decide_eq_true h2.1, decide_eq_true h2.2]; simp
          clear h1 h2
          go_wp2
          go_roundg (s.length - (j + 1) + 1)
          case measure => have := HG.out; have := HJ.out; omega
          case rel => exact ⟨j + 1, by first | rfl | (rw [f1]) | go_num | (congr 1; omega), by have := HJ.out; omega, hide (HNX.out HOK.out), rfl, by omega⟩
        · by_cases h3 : y.toNat = 45
          · have hyy : y = 45 := UInt8.toNat_inj.1 h3
            subst hyy
            have HOK : Hid (hnL.contains (45 : UInt8) = true) := by unfold Hid; decide
            clear h1 h2 h3
            go_wp2
            go_roundg (s.length - (j + 1) + 1)
            case measure => have := HG.out; have := HJ.out; omega
            case rel => exact ⟨j + 1, by first | rfl | (rw [f1]) | go_num | (congr 1; omega), by have := HJ.out; omega, hide (HNX.out HOK.out), rfl, by omega⟩
          · have HBAD : Hid (hnL.contains y = false) := by
              unfold Hid
              rw [HGI.out]
              have e1 : (decide (97 ≤ y.toNat) && decide (y.toNat ≤ 122)) = false := by
                cases e : (decide (97 ≤ y.toNat) && decide (y.toNat ≤ 122)) with
                | false => rfl
                | true => exact absurd (by simpa using e) h1
              have e2 : (decide (48 ≤ y.toNat) && decide (y.toNat ≤ 57)) = false := by
                cases e : (decide (48 ≤ y.toNat) && decide (y.toNat ≤ 57)) with
                | false => rfl
                | true => exact absurd (by simpa using e) h2
              rw [e1, e2, decide_eq_false h3]
              rfl
            have hne : ((y.toNat : Int) != 45) = true := by simp; omega
            have hne2 : ¬ (y.toNat : Int) = 45 := by omega
            have HB := hide (HNO.out HBAD.out)
            by_cases b1 : 97 ≤ y.toNat
            · have a1 : (97 : Int) ≤ (y.toNat : Int) := by omega
              have a2 : ¬ (y.toNat : Int) ≤ 122 := by omega
              have a3 : (48 : Int) ≤ (y.toNat : Int) := by omega
              have a4 : ¬ (y.toNat : Int) ≤ 57 := by omega
              clear h1 h2 h3 b1
              go_wp2
              go_ret
              exact ⟨by rw [HB.out]; rfl, Below.refl _ _⟩
            · have a1 : ¬ (97 : Int) ≤ (y.toNat : Int) := by omega
              by_cases b2 : 48 ≤ y.toNat
              · have a3 : (48 : Int) ≤ (y.toNat : Int) := by omega
                have a4 : ¬ (y.toNat : Int) ≤ 57 := by omega
                clear h1 h2 h3 b1 b2
                go_wp2
                go_ret
                exact ⟨by rw [HB.out]; rfl, Below.refl _ _⟩
              · have a3 : ¬ (48 : Int) ≤ (y.toNat : Int) := by omega
                clear h1 h2 h3 b1 b2
                go_wp2
                go_ret
                exact ⟨by rw [HB.out]; rfl, Below.refl _ _⟩
    · have hj' : ¬ (j : Int) < (s.length : Int) := by omega
      have HM := hide (mdB_all (most := 32) (fun q hq => HR.out q hq (by omega)))
      have hlen : s.isEmpty = decide (s.length = 0) := by cases s <;> simp
      rw [hlen] at HM
      clear HR
      by_cases h0 : s.length = 0
      · have h1 : ¬ (1 : Int) ≤ (s.length : Int) := by omega
        rw [decide_eq_true h0] at HM
        go_wp2
        go_ret
        exact ⟨by rw [HM.out]; rfl, Below.refl _ _⟩
      · have h1 : (1 : Int) ≤ (s.length : Int) := by omega
        rw [decide_eq_false h0] at HM
        by_cases h2 : (s.length : Int) ≤ 32
        · rw [decide_eq_true h2] at HM
          go_wp2
          go_ret
          exact ⟨by rw [HM.out]; rfl, Below.refl _ _⟩
        · rw [decide_eq_false h2] at HM
          have h3 : decide ((s.length : Int) ≤ 32) = false := decide_eq_false h2
          go_wp2
          go_ret
          exact ⟨by rw [HM.out]; first | rfl | simp [h3] | (simp; omega), Below.refl _ _⟩
end Go.Proofs.YthgikaklcglpiaaGreatDoor.L5
