/-
  slices.Equal at spans and at texts by their contracts. Condition: lists no longer than a process can hold.
-/
import Derived.Test.YthgikaklcglpiaaGreatDoorP03
import Derived.Deep.DeepCutAuto
import Derived.Deep.CutBlock
import Derived.Laws.StructEq
import Derived.Test.YthgikaklcglpiaaGreatDoorP04
namespace Go.Proofs.YthgikaklcglpiaaGreatDoor.L5
open Go.RowKit Go.Lib

theorem fields75 : Tryz.prog.fieldsOf 75 = #[⟨"Lo", 3, 0, false, "", "", 0⟩, ⟨"Hi", 3, 1, false, "", "", 8⟩] := by kernel_rfl
theorem und75 : Tryz.prog.underlying 75 = some (.struct (Tryz.prog.fieldsOf 75)) := by kernel_rfl
theorem held75 : Tryz.prog.stoodInHeld 75 = false := by kernel_rfl
theorem eq75 (a b c d : Int) (w : World) : (Op.equalIn 10000 75 (.agg #[.int .i64 a, .int .i64 b]) (.agg #[.int .i64 c, .int .i64 d])).run Tryz.prog w = .ok (a == c && b == d) w := by
  have h3 : ∀ (x y : Int) w, (Op.equalIn 9999 3 (.int .i64 x) (.int .i64 y)).run Tryz.prog w = .ok (x == y) w := fun x y w => by rw [show (9999 : Nat) = 9998 + 1 from rfl, run_equalIn_int w 9998 3 .i64 .i64 x y Tryz.underlying3]
  have p0 : ∀ a b w, (part 3 #[.int .i64 a, .int .i64 b] 0).run Tryz.prog w = .ok (.int .i64 a) w := fun a b w => by kernel_rfl
  have p1 : ∀ a b w, (part 3 #[.int .i64 a, .int .i64 b] 1).run Tryz.prog w = .ok (.int .i64 b) w := fun a b w => by kernel_rfl
  rw [show (10000 : Nat) = 9999 + 1 from rfl, run_equalIn_struct w 9999 75 _ _ und75 held75, fields75]
  cases h : (a == c) <;> cases h' : (b == d) <;> simp [Op.eqFields, Sem.run_bind, p0, p1, h3, h, h']
theorem gD_ext {α : Type} {A B : List α} (z : α) (hl : A.length = B.length) (h : ∀ k, k < A.length → A.getD k z = B.getD k z) : A = B := by
  refine List.ext_getElem hl fun i a b => ?_
  have := h i a
  rwa [List.getD_eq_getElem?_getD, List.getD_eq_getElem?_getD, List.getElem?_eq_getElem a, List.getElem?_eq_getElem b] at this
set_option maxRecDepth 100000 in
set_option maxHeartbeats 2000000 in
theorem equalS_any (ao bo : Option Addr) (ac bc : Nat) (A B : List Spn) (w : World) (hl : A.length ≤ 140737488351232) (ha : SpAt w ao A) (hb : SpAt w bo B) :
    Calls Tryz.prog 43 #[.slice ao A.length ac, .slice bo B.length bc] w fun e w' => e = .returned (.bool (decide (A = B))) ∧ Below w.heap.size w w' := by
  by_cases h1 : A.length = B.length
  · have h1' : (A.length : Int) = (B.length : Int) := by omega
    have b1 : ((A.length : Int) != (B.length : Int)) = false := by simp; omega
    have H1 := hide h1
    have HA := hide ha
    have HB := hide hb
    clear h1 ha hb
    go_enter Tryz.func43, Tryz.ntmps43
    go_wp2
    go_loopg [13] (A.length + 1) (fun g x wr => ∃ k : Nat, x = .int .i64 (k : Nat) ∧ k ≤ A.length ∧ Hid (∀ j, j < k → A.getD j (0, 0) = B.getD j (0, 0)) ∧ Hid (Below w.heap.size w wr) ∧ A.length - k < g)
    case atStart => exact ⟨0, rfl, by omega, hide fun j hj => by omega, hide (Below.refl _ _), by omega⟩
    case round =>
      obtain ⟨k, rfl, hk1, HE, X, hg⟩ := hrel
      have HG := hide hg
      clear hg
      by_cases hk : k < A.length
      · have hk' : (k : Int) < (A.length : Int) := by omega
        have hkb : k < B.length := by have := H1.out; omega
        have hkb' : (k : Int) < (B.length : Int) := by omega
        obtain ⟨pa, oa, rfl, _, ca⟩ := (HA.out.below X.out).get hk
        obtain ⟨pb, ob, rfl, _, cb⟩ := (HB.out.below X.out).get hkb
        obtain ⟨a0, a1⟩ := ca k hk
        obtain ⟨b0, b2⟩ := cb k hkb
        clear ca cb
        have HK := hide hk
        clear hkb hk
        obtain ⟨x, hx⟩ : ∃ x, x = A.getD k (0, 0) := ⟨_, rfl⟩
        obtain ⟨y, hy⟩ : ∃ y, y = B.getD k (0, 0) := ⟨_, rfl⟩
        rw [← hx] at a0 a1
        rw [← hy] at b0 b2
        have HXX := hide hx
        have HYY := hide hy
        clear hx hy
        obtain ⟨x1, x2⟩ := x
        obtain ⟨y1, y2⟩ := y
        simp only at a0 a1 b0 b2
        have heq := eq75 x1 x2 y1 y2
        cases hxy : (x1 == y1 && x2 == y2) with
        | true =>
          rw [hxy] at heq
          have HXY := hide hxy
          clear hxy
          go_wp2
          go_quiet (fail)
          have X6 : Hid (Below w.heap.size w (wr.drewN nq)) := X.out.trans ⟨rfl, rfl, rfl, Nat.le_refl _, fun _ _ => rfl⟩
          go_wp2
          go_roundg (A.length - (k + 1) + 1)
          case measure => have := HG.out; have := HK.out; omega
          case rel => exact ⟨k + 1, by first | rfl | go_num | (congr 1; omega), by have := HK.out; omega, hide fun j hj => by
            by_cases e : j = k
            · rw [e, ← HXX.out, ← HYY.out]
              have := HXY.out
              rw [Bool.and_eq_true, beq_iff_eq, beq_iff_eq] at this
              rw [this.1, this.2]
            · exact HE.out j (by omega), X6, by omega⟩
        | false =>
          rw [hxy] at heq
          have HXY := hide hxy
          clear hxy
          go_wp2
          go_quiet (fail)
          have X6 : Hid (Below w.heap.size w (wr.drewN nq)) := X.out.trans ⟨rfl, rfl, rfl, Nat.le_refl _, fun _ _ => rfl⟩
          go_wp2
          go_ret
          have hne : ¬ A = B := fun h => by
            have h3 := HXX.out
            rw [h, ← HYY.out] at h3
            injection h3 with h3 h4
            have := HXY.out
            rw [h3, h4] at this
            simp at this
          exact ⟨by rw [decide_eq_false hne]; rfl, X6.out⟩
      · have hk' : ¬ (k : Int) < (A.length : Int) := by omega
        go_wp2
        go_ret
        exact ⟨by rw [decide_eq_true (gD_ext (0, 0) H1.out (fun j hj => HE.out j (by omega)))]; rfl, X.out⟩
  · have h1' : ¬ (A.length : Int) = (B.length : Int) := by omega
    have b1 : ((A.length : Int) != (B.length : Int)) = true := by simp; omega
    have H1 := hide h1
    clear h1
    go_enter Tryz.func43, Tryz.ntmps43
    go_wp2
    go_ret
    exact ⟨by rw [decide_eq_false (fun h => H1.out (by rw [h]))]; rfl, Below.refl _ _⟩
/-- Texts in memory. -/
def StAt (w : World) (ao : Option Addr) (L : List By) : Prop := L = [] ∨ ∃ b off, ao = some ⟨b, off, none⟩ ∧ b < w.heap.size ∧ ∀ i, i < L.length → w.cell? ⟨b, off + i, none⟩ = some (.string ⟨(L.getD i []).toArray⟩)
theorem StAt.get {w : World} {ao : Option Addr} {L : List By} (h : StAt w ao L) {i : Nat} (hi : i < L.length) : ∃ b off, ao = some ⟨b, off, none⟩ ∧ b < w.heap.size ∧ ∀ i, i < L.length → w.cell? ⟨b, off + i, none⟩ = some (.string ⟨(L.getD i []).toArray⟩) := by
  rcases h with rfl | h
  · simp at hi
  · exact h
theorem StAt.below {w w' : World} {ao : Option Addr} {L : List By} (h : StAt w ao L) (hb : Below w.heap.size w w') : StAt w' ao L := by
  rcases h with h | ⟨b, off, h1, h2, h3⟩
  · exact .inl h
  · exact .inr ⟨b, off, h1, Nat.lt_of_lt_of_le h2 hb.size, fun i hi => (hb.cell (p := ⟨b, off + i, none⟩) h2).trans (h3 i hi)⟩
set_option maxRecDepth 100000 in
set_option maxHeartbeats 2000000 in
theorem equalT_any (ao bo : Option Addr) (ac bc : Nat) (A B : List By) (w : World) (hl : A.length ≤ 140737488351232) (ha : StAt w ao A) (hb : StAt w bo B) :
    Calls Tryz.prog 44 #[.slice ao A.length ac, .slice bo B.length bc] w fun e w' => e = .returned (.bool (decide (A = B))) ∧ Below w.heap.size w w' := by
  by_cases h1 : A.length = B.length
  · have h1' : (A.length : Int) = (B.length : Int) := by omega
    have b1 : ((A.length : Int) != (B.length : Int)) = false := by simp; omega
    have H1 := hide h1
    have HA := hide ha
    have HB := hide hb
    clear h1 ha hb
    go_enter Tryz.func44, Tryz.ntmps44
    go_wp2
    go_loopg [13] (A.length + 1) (fun g x wr => ∃ k : Nat, x = .int .i64 (k : Nat) ∧ k ≤ A.length ∧ Hid (∀ j, j < k → A.getD j [] = B.getD j []) ∧ Hid (Below w.heap.size w wr) ∧ A.length - k < g)
    case atStart => exact ⟨0, rfl, by omega, hide fun j hj => by omega, hide (Below.refl _ _), by omega⟩
    case round =>
      obtain ⟨k, rfl, hk1, HE, X, hg⟩ := hrel
      have HG := hide hg
      clear hg
      by_cases hk : k < A.length
      · have hk' : (k : Int) < (A.length : Int) := by omega
        have hkb : k < B.length := by have := H1.out; omega
        have hkb' : (k : Int) < (B.length : Int) := by omega
        obtain ⟨pa, oa, rfl, _, ca⟩ := (HA.out.below X.out).get hk
        obtain ⟨pb, ob, rfl, _, cb⟩ := (HB.out.below X.out).get hkb
        have a0 := ca k hk
        have b0 := cb k hkb
        clear ca cb
        have HK := hide hk
        clear hkb hk
        obtain ⟨x, hx⟩ : ∃ x, x = A.getD k [] := ⟨_, rfl⟩
        obtain ⟨y, hy⟩ : ∃ y, y = B.getD k [] := ⟨_, rfl⟩
        rw [← hx] at a0
        rw [← hy] at b0
        have HXX := hide hx
        have HYY := hide hy
        clear hx hy
        by_cases hxy : x = y
        · subst hxy
          go_wp2
          go_quiet (fail)
          have X6 : Hid (Below w.heap.size w (wr.drewN nq)) := X.out.trans ⟨rfl, rfl, rfl, Nat.le_refl _, fun _ _ => rfl⟩
          go_wp2
          go_roundg (A.length - (k + 1) + 1)
          case measure => have := HG.out; have := HK.out; omega
          case rel => exact ⟨k + 1, by first | rfl | go_num | (congr 1; omega), by have := HK.out; omega, hide fun j hj => by
            by_cases e : j = k
            · rw [e, ← HXX.out, ← HYY.out]
            · exact HE.out j (by omega), X6, by omega⟩
        · have HXY := hide hxy
          have hbn : (x != y) = true := by simpa using hxy
          have hbe : (x == y) = false := by simpa using hxy
          go_wp2
          go_quiet (fail)
          have X6 : Hid (Below w.heap.size w (wr.drewN nq)) := X.out.trans ⟨rfl, rfl, rfl, Nat.le_refl _, fun _ _ => rfl⟩
          go_wp2
          go_ret
          have hne : ¬ A = B := fun h => by
            have h3 := HXX.out
            rw [h, ← HYY.out] at h3
            exact HXY.out h3
          exact ⟨by rw [decide_eq_false hne]; rfl, X6.out⟩
      · have hk' : ¬ (k : Int) < (A.length : Int) := by omega
        go_wp2
        go_ret
        exact ⟨by rw [decide_eq_true (gD_ext [] H1.out (fun j hj => HE.out j (by omega)))]; rfl, X.out⟩
  · have h1' : ¬ (A.length : Int) = (B.length : Int) := by omega
    have b1 : ((A.length : Int) != (B.length : Int)) = true := by simp; omega
    have H1 := hide h1
    clear h1
    go_enter Tryz.func44, Tryz.ntmps44
    go_wp2
    go_ret
    exact ⟨by rw [decide_eq_false (fun h => H1.out (by rw [h]))]; rfl, Below.refl _ _⟩
end Go.Proofs.YthgikaklcglpiaaGreatDoor.L5
/-
  samePiece, slices.EqualFunc at pieces by their contracts. Condition: lists no longer than a process can hold.
-/
namespace Go.Proofs.YthgikaklcglpiaaGreatDoor.L5
open Go.RowKit Go.Lib

def pcEq (p q : Pc) : Bool := (p.kind == q.kind) && ((p.b == q.b) && ((p.no == q.no) && decide (p.set = q.set)))
theorem pcEq_iff (p q : Pc) : pcEq p q = true ↔ p = q := by
  unfold pcEq
  rw [Bool.and_eq_true, Bool.and_eq_true, Bool.and_eq_true, beq_iff_eq, beq_iff_eq, beq_iff_eq, decide_eq_true_iff]
  constructor
  · rintro ⟨h1, h2, h3, h4⟩
    cases p; cases q
    simp only at h1 h2 h3 h4
    rw [h1, h2, h3, h4]
  · rintro rfl
    exact ⟨rfl, rfl, rfl, rfl⟩
instance pcDec (p q : Pc) : Decidable (p = q) := decidable_of_iff (pcEq p q = true) (pcEq_iff p q)
set_option maxRecDepth 100000 in
set_option maxHeartbeats 2000000 in
theorem samePiece_any (k1 b1 : Int) (n1 : Bool) (s1 : Option Addr) (c1 : Nat) (S1 : List Spn) (k2 b2 : Int) (n2 : Bool) (s2 : Option Addr) (c2 : Nat) (S2 : List Spn) (w : World) (hl : S1.length ≤ 140737488351232) (ha : SpAt w s1 S1) (hb : SpAt w s2 S2) :
    Calls Tryz.prog 46 #[.agg #[.int .i64 k1, .int .i64 b1, .bool n1, .slice s1 S1.length c1], .agg #[.int .i64 k2, .int .i64 b2, .bool n2, .slice s2 S2.length c2]] w fun e w' => e = .returned (.bool (pcEq ⟨k1, b1, n1, S1⟩ ⟨k2, b2, n2, S2⟩)) ∧ Below w.heap.size w w' := by
  have XW := hide (show Below w.heap.size w ((w.alloc (.cells #[.int .i64 k1, .int .i64 b1, .bool n1, .slice s1 S1.length c1] 83)).alloc (.cells #[.int .i64 k2, .int .i64 b2, .bool n2, .slice s2 S2.length c2] 83)) from al (al (Below.refl _ _) _) _)
  by_cases hk : k1 = k2
  · subst hk
    by_cases hbb : b1 = b2
    · subst hbb
      by_cases hn : n1 = n2
      · subst hn
        have HP : Hid (pcEq ⟨k1, b1, n1, S1⟩ ⟨k1, b1, n1, S2⟩ = decide (S1 = S2)) := by simp [Hid, pcEq]
        have HE := hide (equalS_any s1 s2 c1 c2 S1 S2 _ hl (ha.below XW.out) (hb.below XW.out))
        generalize decide (S1 = S2) = q at *
        clear ha hb
        go_enter Tryz.func46, Tryz.ntmps46
        go_upto_region 1 with fail
        go_wp2_with (go_at_call 43; refine HE.out.mono ?_; rintro e w1 ⟨rfl, x1⟩; have X1 := hide x1; clear x1)
        go_ret
        exact ⟨by rw [HP.out]; rfl, bt XW.out X1.out (Nat.le_refl _)⟩
      · have HP : Hid (pcEq ⟨k1, b1, n1, S1⟩ ⟨k1, b1, n2, S2⟩ = false) := by simp [Hid, pcEq, hn]
        have hn' : (n1 == n2) = false := by simpa using hn
        clear ha hb
        go_enter Tryz.func46, Tryz.ntmps46
        go_wp2
        go_ret
        exact ⟨by rw [HP.out]; rfl, XW.out⟩
    · have HP : Hid (pcEq ⟨k1, b1, n1, S1⟩ ⟨k1, b2, n2, S2⟩ = false) := by simp [Hid, pcEq, hbb]
      have hb' : (b1 == b2) = false := by simpa using hbb
      clear ha hb
      go_enter Tryz.func46, Tryz.ntmps46
      go_wp2
      go_ret
      exact ⟨by rw [HP.out]; rfl, XW.out⟩
  · have HP : Hid (pcEq ⟨k1, b1, n1, S1⟩ ⟨k2, b2, n2, S2⟩ = false) := by simp [Hid, pcEq, hk]
    have hk' : (k1 == k2) = false := by simpa using hk
    clear ha hb
    go_enter Tryz.func46, Tryz.ntmps46
    go_wp2
    go_ret
    exact ⟨by rw [HP.out]; rfl, XW.out⟩
end Go.Proofs.YthgikaklcglpiaaGreatDoor.L5
/-
  slices.EqualFunc at pieces, Same of two tests by their contracts. Condition: lists no longer than a process can hold.
-/
namespace Go.Proofs.YthgikaklcglpiaaGreatDoor.L5
open Go.RowKit Go.Lib

theorem enters46 : ∀ (args : Array Value) (w : World), (callFunc 46 args).run Tryz.prog w = .ok (.enter 46 args) w := fun _ _ => by kernel_rfl
def pcsEq (A B : List PD) : Bool := decide (A.map PD.p = B.map PD.p)
theorem pcsEq_true {A B : List PD} (hl : A.length = B.length) (h : ∀ j (ha : j < A.length) (hb : j < B.length), A[j].p = B[j].p) : pcsEq A B = true :=
  decide_eq_true (List.ext_getElem (by simpa using hl) (fun i a b => by
    rw [List.getElem_map, List.getElem_map]
    exact h i (by simpa using a) (by simpa using b)))
theorem pcsEq_len {A B : List PD} (hl : ¬ A.length = B.length) : pcsEq A B = false :=
  decide_eq_false (fun h => hl (by simpa using congrArg List.length h))
theorem pcsEq_at {A B : List PD} {j : Nat} (ha : j < A.length) (hb : j < B.length) (h : ¬ A[j].p = B[j].p) : pcsEq A B = false :=
  decide_eq_false (fun e => h (by
    have : (A.map PD.p)[j]? = (B.map PD.p)[j]? := by rw [e]
    rw [List.getElem?_map, List.getElem?_map, List.getElem?_eq_getElem ha, List.getElem?_eq_getElem hb] at this
    simpa using this))
set_option maxRecDepth 100000 in
set_option maxHeartbeats 4000000 in
theorem equalF_any (ao bo : Option Addr) (ac bc : Nat) (A B : List PD) (w : World) (hAl : A.length ≤ 140737488351232) (hA : ∀ d ∈ A, d.p.set.length ≤ 140737488351232) (ha : PcAt w ao A) (hb : PcAt w bo B) :
    Calls Tryz.prog 45 #[.slice ao A.length ac, .slice bo B.length bc, .func (.func 46) #[] #[]] w fun e w' => e = .returned (.bool (pcsEq A B)) ∧ Below w.heap.size w w' := by
  have hent := enters46
  by_cases h1 : A.length = B.length
  · have h1' : (A.length : Int) = (B.length : Int) := by omega
    have b1 : ((A.length : Int) != (B.length : Int)) = false := by simp; omega
    have H1 := hide h1
    have HA := hide ha
    have HB := hide hb
    have HL := hide hA
    clear h1 ha hb hA
    go_enter Tryz.func45, Tryz.ntmps45
    go_wp2
    go_loopg [17] (A.length + 1) (fun g x wr => ∃ k : Nat, x = .int .i64 (k : Nat) ∧ k ≤ A.length ∧ Hid (∀ j (ha : j < A.length) (hb : j < B.length), j < k → A[j].p = B[j].p) ∧ Hid (Below w.heap.size w wr) ∧ A.length - k < g)
    case atStart => exact ⟨0, rfl, by omega, hide fun j _ _ hj => by omega, hide (Below.refl _ _), by omega⟩
    case round =>
      obtain ⟨k, rfl, hk1, HE, X, hg⟩ := hrel
      have HG := hide hg
      clear hg
      by_cases hk : k < A.length
      · have hk' : (k : Int) < (A.length : Int) := by omega
        have hkb : k < B.length := by have := H1.out; omega
        have hkb' : (k : Int) < (B.length : Int) := by omega
        obtain ⟨pa, oa, rfl, la, ca⟩ : ∃ pa oa, ao = some ⟨pa, oa, none⟩ ∧ pa < wr.heap.size ∧ ∀ i (h : i < A.length), wr.cell? ⟨pa, oa + i * 4, none⟩ = some (.int .i64 A[i].p.kind) ∧ wr.cell? ⟨pa, oa + i * 4 + 1, none⟩ = some (.int .i64 A[i].p.b) ∧ wr.cell? ⟨pa, oa + i * 4 + 2, none⟩ = some (.bool A[i].p.no) ∧ wr.cell? ⟨pa, oa + i * 4 + 3, none⟩ = some (.slice A[i].so A[i].p.set.length A[i].sc) ∧ SpAt wr A[i].so A[i].p.set := by
          rcases HA.out.below X.out with h | h
          · rw [h] at hk; simp at hk
          · exact h
        obtain ⟨pb, ob, rfl, lb, cb⟩ : ∃ pa oa, bo = some ⟨pa, oa, none⟩ ∧ pa < wr.heap.size ∧ ∀ i (h : i < B.length), wr.cell? ⟨pa, oa + i * 4, none⟩ = some (.int .i64 B[i].p.kind) ∧ wr.cell? ⟨pa, oa + i * 4 + 1, none⟩ = some (.int .i64 B[i].p.b) ∧ wr.cell? ⟨pa, oa + i * 4 + 2, none⟩ = some (.bool B[i].p.no) ∧ wr.cell? ⟨pa, oa + i * 4 + 3, none⟩ = some (.slice B[i].so B[i].p.set.length B[i].sc) ∧ SpAt wr B[i].so B[i].p.set := by
          rcases HB.out.below X.out with h | h
          · rw [h] at hkb; simp at hkb
          · exact h
        obtain ⟨p0, p1, p2, p3, p4⟩ := ca k hk
        obtain ⟨q0, q1, q2, q3, q4⟩ := cb k hkb
        have HK := hide hk
        have HKB := hide hkb
        have HLA := hide (HL.out _ (List.getElem_mem hk))
        obtain ⟨x, hx⟩ : ∃ x, x = A[k]'hk := ⟨_, rfl⟩
        obtain ⟨y, hy⟩ : ∃ y, y = B[k]'hkb := ⟨_, rfl⟩
        rw [← hx] at p0 p1 p2 p3 p4 HLA
        rw [← hy] at q0 q1 q2 q3 q4
        have HXX : Hid (∀ h : k < A.length, x.p = A[k].p) := fun h => by rw [hx]
        have HYY : Hid (∀ h : k < B.length, y.p = B[k].p) := fun h => by rw [hy]
        clear hx hy ca cb hk hkb
        obtain ⟨⟨xk, xb, xn, xs⟩, xo, xc⟩ := x
        obtain ⟨⟨yk, yb, yn, ys⟩, yo, yc⟩ := y
        simp only at p0 p1 p2 p3 p4 q0 q1 q2 q3 q4 HLA HXX HYY
        have XA := hide (show Below wr.heap.size wr (wr.alloc (.cells #[.int .i64 xk, .int .i64 xb, .bool xn, .slice xo xs.length xc] 83)) from al (Below.refl _ _) _)
        have BA := hide (heap_alloc_new wr (.cells #[.int .i64 xk, .int .i64 xb, .bool xn, .slice xo xs.length xc] 83))
        have HSA := hide (p4.below XA.out)
        have HSB := hide (q4.below XA.out)
        have LB : Hid (pb < wr.heap.size) := lb
        clear p4 q4 la lb
        go_upto_region 6 with fail
        have q0 := (XA.out.cell (p := ⟨pb, ob + k * 4, none⟩) LB.out).trans q0
        have q1 := (XA.out.cell (p := ⟨pb, ob + k * 4 + 1, none⟩) LB.out).trans q1
        have q2 := (XA.out.cell (p := ⟨pb, ob + k * 4 + 2, none⟩) LB.out).trans q2
        have q3 := (XA.out.cell (p := ⟨pb, ob + k * 4 + 3, none⟩) LB.out).trans q3
        clear p0 p1 p2 p3
        obtain ⟨P, hP⟩ : ∃ P, P = wr.heap.size := ⟨_, rfl⟩
        rw [← hP] at BA ⊢
        clear hP
        generalize wr.alloc (.cells #[.int .i64 xk, .int .i64 xb, .bool xn, .slice xo xs.length xc] 83) = w2 at *
        have XB := hide (show Below w2.heap.size w2 (w2.alloc (.cells #[.int .i64 yk, .int .i64 yb, .bool yn, .slice yo ys.length yc] 83)) from al (Below.refl _ _) _)
        have BB := hide (heap_alloc_new w2 (.cells #[.int .i64 yk, .int .i64 yb, .bool yn, .slice yo ys.length yc] 83))
        have HSA2 := hide (HSA.out.below XB.out)
        have HSB2 := hide (HSB.out.below XB.out)
        have BA2 := hide ((XB.out.block P (lt_of_block BA.out)).trans BA.out)
        go_upto_region 7 with fail
        clear q0 q1 q2 q3 BA HSA HSB
        have XX := hide (bt X.out (bt XA.out XB.out (Nat.le_refl _)) (Nat.le_refl _))
        obtain ⟨Q, hQ⟩ : ∃ Q, Q = w2.heap.size := ⟨_, rfl⟩
        rw [← hQ] at BB ⊢
        clear hQ XA XB LB
        generalize w2.alloc (.cells #[.int .i64 yk, .int .i64 yb, .bool yn, .slice yo ys.length yc] 83) = w3 at *
        obtain ⟨p0, p1, p2, p3⟩ := cells4 BA2.out
        obtain ⟨q0, q1, q2, q3⟩ := cells4 BB.out
        have HC := hide (samePiece_any xk xb xn xo xc xs yk yb yn yo yc ys w3 HLA.out HSA2.out HSB2.out)
        cases hpe : pcEq ⟨xk, xb, xn, xs⟩ ⟨yk, yb, yn, ys⟩ with
        | true =>
          rw [hpe] at HC
          have HPE := hide ((pcEq_iff _ _).1 hpe)
          clear hpe
          go_wp2_with (go_at_call 46; refine HC.out.mono ?_; rintro e w4 ⟨rfl, x4⟩; have X4 := hide (bt XX.out x4 (Nat.le_refl _)); clear x4)
          go_roundg (A.length - (k + 1) + 1)
          case measure => have := HG.out; have := HK.out; omega
          case rel => exact ⟨k + 1, by first | rfl | go_num | (congr 1; omega), by have := HK.out; omega, hide fun j ha hb hj => by
            by_cases e : j = k
            · subst e
              rw [← HXX.out ha, ← HYY.out hb]
              exact HPE.out
            · exact HE.out j ha hb (by omega), X4, by omega⟩
        | false =>
          rw [hpe] at HC
          have HPE : Hid (¬ (⟨xk, xb, xn, xs⟩ : Pc) = ⟨yk, yb, yn, ys⟩) := fun h => by
            rw [(pcEq_iff _ _).2 h] at hpe
            cases hpe
          clear hpe
          go_wp2_with (go_at_call 46; refine HC.out.mono ?_; rintro e w4 ⟨rfl, x4⟩; have X4 := hide (bt XX.out x4 (Nat.le_refl _)); clear x4)
          go_ret
          exact ⟨by rw [pcsEq_at HK.out HKB.out (fun h => HPE.out (by rw [HXX.out HK.out, HYY.out HKB.out]; exact h))]; rfl, X4.out⟩
      · have hk' : ¬ (k : Int) < (A.length : Int) := by omega
        go_wp2
        go_ret
        exact ⟨by rw [pcsEq_true H1.out (fun j ha hb => HE.out j ha hb (by omega))]; rfl, X.out⟩
  · have h1' : ¬ (A.length : Int) = (B.length : Int) := by omega
    have b1 : ((A.length : Int) != (B.length : Int)) = true := by simp; omega
    have H1 := hide h1
    clear h1
    go_enter Tryz.func45, Tryz.ntmps45
    go_wp2
    go_ret
    exact ⟨by rw [pcsEq_len H1.out]; rfl, Below.refl _ _⟩
end Go.Proofs.YthgikaklcglpiaaGreatDoor.L5
