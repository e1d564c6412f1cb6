/-
  readQuad, Parse by their contracts. Condition: a text is no longer than a process can hold.
-/
import Derived.Test.YtkpdbbbeagnjpaaGreatDoorQ19
import Derived.Test.YtkpdbbbeagnjpaaGreatDoorQ16
namespace Go.Proofs.YtkpdbbbeagnjpaaGreatDoor
open Go.RowKit Go.Lib

theorem rn_le {l : List UInt8} {most n : Nat} (h : rn l most = some n) : n ≤ most := (rn_some h).2
/-- What a text's four numbers are, if it is cut. -/
theorem addrL_three {l p1 p2 p3 l1 l2 l3 : List UInt8} (h1 : cutL 46 l = some (p1, l1)) (h2 : cutL 46 l1 = some (p2, l2)) (h3 : cutL 46 l2 = some (p3, l3)) :
    addrL l = (rn p1 255).bind fun a => (rn p2 255).bind fun b => (rn p3 255).bind fun c => (rn l3 255).bind fun d => some (W4 a b c d) := by
  simp [addrL, h1, h2, h3]
theorem addrL_few {l : List UInt8} (hno : ∀ p1 p2 p3 l1 l2 l3, ¬ (cutL 46 l = some (p1, l1) ∧ cutL 46 l1 = some (p2, l2) ∧ cutL 46 l2 = some (p3, l3))) : addrL l = none := by
  unfold addrL
  cases e1 : cutL 46 l with
  | none => rfl
  | some x1 =>
    cases e2 : cutL 46 x1.2 with
    | none => simp [e2]
    | some x2 =>
      cases e3 : cutL 46 x2.2 with
      | none => simp [e2, e3]
      | some x3 => exact absurd ⟨e1, e2, e3⟩ (hno x1.1 x2.1 x3.1 x1.2 x2.2 x3.2)
/-- What readQuad hands back. -/
def RQ (l : List UInt8) (e : Ending) : Prop :=
  ∃ a b c d : Nat, (a < 256 ∧ b < 256 ∧ c < 256 ∧ d < 256) ∧ e = .returned (.tuple #[.agg #[.int .u8 a, .int .u8 b, .int .u8 c, .int .u8 d], .bool (addrL l).isSome]) ∧ ∀ n, addrL l = some n → W4 a b c d = n
theorem RQ.none {l : List UInt8} (h : addrL l = none) : RQ l (.returned (.tuple #[.agg #[.int .u8 0, .int .u8 0, .int .u8 0, .int .u8 0], .bool false])) :=
  ⟨0, 0, 0, 0, ⟨by decide, by decide, by decide, by decide⟩, by rw [h]; rfl, fun n hn => by rw [h] at hn; cases hn⟩

set_option maxRecDepth 100000 in
set_option maxHeartbeats 8000000 in
theorem readQuad_any (l : List UInt8) (hl : l.length ≤ 140737488351232) (w : World) : Calls Tryz.prog 76 #[.string ⟨l.toArray⟩] w fun e w' => RQ l e ∧ Below w.heap.size w w' := by
  by_cases hthree : ∃ p1 p2 p3 l1 l2 l3, cutL 46 l = some (p1, l1) ∧ cutL 46 l1 = some (p2, l2) ∧ cutL 46 l2 = some (p3, l3)
  · obtain ⟨p1, p2, p3, l1, l2, l3, h1, h2, h3⟩ := hthree
    have hsp := splitN_three l p1 p2 p3 l1 l2 l3 hl h1 h2 h3
    have had := addrL_three h1 h2 h3
    have c1 := cut_len h1
    have c2 := cut_len h2
    have c3 := cut_len h3
    have r1 := readNumber_any p1 255 (by decide) (by omega)
    have r2 := readNumber_any p2 255 (by decide) (by omega)
    have r3 := readNumber_any p3 255 (by decide) (by omega)
    have r4 := readNumber_any l3 255 (by decide) (by omega)
    have HA := hide had
    clear h1 h2 h3 c1 c2 c3 had
    go_enter Tryz.func76, Tryz.ntmps76
    go_wp2_with (go_at_call 88; refine (hsp _).mono ?_; rintro e w2 ⟨rfl, hw2⟩; subst hw2)
    clear hsp
    refine wp_loop_rounds 5 ?_
    cases e1 : rn p1 255 with
    | none =>
      have hno : addrL l = none := by rw [HA.out]; simp [e1]
      have HN := hide hno
      rw [e1] at r1
      simp only [Option.getD_none, Option.isSome_none] at r1
      clear hno e1
      rw [rounds_succ]
      go_wp2_with (go_at_call 77; refine (r1 _).mono ?_; rintro e w2 ⟨rfl, hw2⟩; subst hw2)
      refine bodyPost_ret (by simp [results, Tryz.results76, go_sem]; try rfl) rfl ?_
      exact ⟨RQ.none HN.out, by repeat (first | exact Below.refl _ _ | refine al ?_ _)⟩
    | some a1 =>
      have le1 := rn_le e1
      have md1 : (a1 : Int) % 256 = a1 := by omega
      rw [e1] at r1
      simp only [Option.getD_some, Option.isSome_some] at r1
      have E1 := hide e1
      clear e1
      rw [rounds_succ]
      go_wp2_with (go_at_call 77; refine (r1 _).mono ?_; rintro e w2 ⟨rfl, hw2⟩; subst hw2)
      cases e2 : rn p2 255 with
      | none =>
        have hno : addrL l = none := by rw [HA.out]; simp [E1.out, e2]
        have HN := hide hno
        rw [e2] at r2
        simp only [Option.getD_none, Option.isSome_none] at r2
        clear hno e2
        rw [rounds_succ]
        go_wp2_with (go_at_call 77; refine (r2 _).mono ?_; rintro e w2 ⟨rfl, hw2⟩; subst hw2)
        refine bodyPost_ret (by simp [results, Tryz.results76, go_sem]; try rfl) rfl ?_
        exact ⟨RQ.none HN.out, by repeat (first | exact Below.refl _ _ | refine al ?_ _)⟩
      | some a2 =>
        have le2 := rn_le e2
        have md2 : (a2 : Int) % 256 = a2 := by omega
        rw [e2] at r2
        simp only [Option.getD_some, Option.isSome_some] at r2
        have E2 := hide e2
        clear e2
        rw [rounds_succ]
        go_wp2_with (go_at_call 77; refine (r2 _).mono ?_; rintro e w2 ⟨rfl, hw2⟩; subst hw2)
        cases e3 : rn p3 255 with
        | none =>
          have hno : addrL l = none := by rw [HA.out]; simp [E1.out, E2.out, e3]
          have HN := hide hno
          rw [e3] at r3
          simp only [Option.getD_none, Option.isSome_none] at r3
          clear hno e3
          rw [rounds_succ]
          go_wp2_with (go_at_call 77; refine (r3 _).mono ?_; rintro e w2 ⟨rfl, hw2⟩; subst hw2)
          refine bodyPost_ret (by simp [results, Tryz.results76, go_sem]; try rfl) rfl ?_
          exact ⟨RQ.none HN.out, by repeat (first | exact Below.refl _ _ | refine al ?_ _)⟩
        | some a3 =>
          have le3 := rn_le e3
          have md3 : (a3 : Int) % 256 = a3 := by omega
          rw [e3] at r3
          simp only [Option.getD_some, Option.isSome_some] at r3
          have E3 := hide e3
          clear e3
          rw [rounds_succ]
          go_wp2_with (go_at_call 77; refine (r3 _).mono ?_; rintro e w2 ⟨rfl, hw2⟩; subst hw2)
          cases e4 : rn l3 255 with
          | none =>
            have hno : addrL l = none := by rw [HA.out]; simp [E1.out, E2.out, E3.out, e4]
            have HN := hide hno
            rw [e4] at r4
            simp only [Option.getD_none, Option.isSome_none] at r4
            clear hno e4
            rw [rounds_succ]
            go_wp2_with (go_at_call 77; refine (r4 _).mono ?_; rintro e w2 ⟨rfl, hw2⟩; subst hw2)
            refine bodyPost_ret (by simp [results, Tryz.results76, go_sem]; try rfl) rfl ?_
            exact ⟨RQ.none HN.out, by repeat (first | exact Below.refl _ _ | refine al ?_ _)⟩
          | some a4 =>
            have le4 := rn_le e4
            have md4 : (a4 : Int) % 256 = a4 := by omega
            rw [e4] at r4
            simp only [Option.getD_some, Option.isSome_some] at r4
            have E4 := hide e4
            clear e4
            rw [rounds_succ]
            go_wp2_with (go_at_call 77; refine (r4 _).mono ?_; rintro e w2 ⟨rfl, hw2⟩; subst hw2)
            have hyes : addrL l = some (W4 a1 a2 a3 a4) := by rw [HA.out]; simp [E1.out, E2.out, E3.out, E4.out]
            have HY := hide hyes
            clear hyes
            rw [rounds_succ]
            go_wp2
            refine bodyPost_ret (by simp [results, Tryz.results76, go_sem]; try rfl) rfl ?_
            exact ⟨⟨a1, a2, a3, a4, ⟨by omega, by omega, by omega, by omega⟩, by rw [HY.out]; rfl, fun n hn => by rw [HY.out] at hn; exact Option.some.inj hn⟩, by repeat (first | exact Below.refl _ _ | refine al ?_ _)⟩
  · have hno : addrL l = none := addrL_few fun p1 p2 p3 l1 l2 l3 h => hthree ⟨p1, p2, p3, l1, l2, l3, h⟩
    have hsp := splitN_few l hl (fun p1 p2 p3 l1 l2 l3 h => hthree ⟨p1, p2, p3, l1, l2, l3, h⟩)
    have HN := hide hno
    clear hno hthree
    have b0 := (Below.refl w.heap.size w).alloc (Nat.le_refl _) (.cells #[.int .u8 0, .int .u8 0, .int .u8 0, .int .u8 0] 107)
    have hR : ((w.alloc (.cells #[.int .u8 0, .int .u8 0, .int .u8 0, .int .u8 0] 107)).alloc (.cells #[.int .u8 0, .int .u8 0, .int .u8 0, .int .u8 0] 107)).heap[w.heap.size]? = some (.cells #[.int .u8 0, .int .u8 0, .int .u8 0, .int .u8 0] 107 (0, 0)) := by
      rw [Below.heap_alloc _ _ _ (by simp)]
      exact heap_alloc_new w _
    have hB : Below w.heap.size w ((w.alloc (.cells #[.int .u8 0, .int .u8 0, .int .u8 0, .int .u8 0] 107)).alloc (.cells #[.int .u8 0, .int .u8 0, .int .u8 0, .int .u8 0] 107)) := al (al (Below.refl _ _) _) _
    have hws : w.heap.size < ((w.alloc (.cells #[.int .u8 0, .int .u8 0, .int .u8 0, .int .u8 0] 107)).alloc (.cells #[.int .u8 0, .int .u8 0, .int .u8 0, .int .u8 0] 107)).heap.size := by simp; omega
    clear b0
    go_enter Tryz.func76, Tryz.ntmps76
    go_wp2_with (go_at_call 88; generalize (w.alloc (.cells #[.int .u8 0, .int .u8 0, .int .u8 0, .int .u8 0] 107)).alloc (.cells #[.int .u8 0, .int .u8 0, .int .u8 0, .int .u8 0] 107) = W at *; refine (hsp W).mono ?_; rintro e w2 ⟨⟨m, c, rfl, hm⟩, x2⟩; have b2 := (x2.block w.heap.size hws).trans hR; have c0 : w2.cell? ⟨w.heap.size, 0, none⟩ = some (.int .u8 0) := (by rw [cell_of_row w2 w.heap.size 0 _ _ _ b2]; rfl); have c1 : w2.cell? ⟨w.heap.size, 1, none⟩ = some (.int .u8 0) := (by rw [cell_of_row w2 w.heap.size 1 _ _ _ b2]; rfl); have c2 : w2.cell? ⟨w.heap.size, 2, none⟩ = some (.int .u8 0) := (by rw [cell_of_row w2 w.heap.size 2 _ _ _ b2]; rfl); have c3 : w2.cell? ⟨w.heap.size, 3, none⟩ = some (.int .u8 0) := (by rw [cell_of_row w2 w.heap.size 3 _ _ _ b2]; rfl); have f0 := frozen_of_row w2 w.heap.size 0 _ _ b2; have f1 := frozen_of_row w2 w.heap.size 1 _ _ b2; have f2 := frozen_of_row w2 w.heap.size 2 _ _ b2; have f3 := frozen_of_row w2 w.heap.size 3 _ _ b2; have hm4 : ¬ ((m : Int) = 4) := (by omega); have B2 := hide b2; have X2 := hide x2; clear x2 b2)
    have b3 := block_setCell (block_setCell (block_setCell (block_setCell B2.out 0 (.int .u8 0)) 1 (.int .u8 0)) 2 (.int .u8 0)) 3 (.int .u8 0)
    have k3 : Below w.heap.size w ((((w2.setCell ⟨w.heap.size, 0, none⟩ (.int .u8 0)).setCell ⟨w.heap.size, 1, none⟩ (.int .u8 0)).setCell ⟨w.heap.size, 2, none⟩ (.int .u8 0)).setCell ⟨w.heap.size, 3, none⟩ (.int .u8 0)) := ((((bt hB X2.out (Nat.le_refl _)).setCell (by simp) _).setCell (by simp) _).setCell (by simp) _).setCell (by simp) _
    generalize (((w2.setCell ⟨w.heap.size, 0, none⟩ (.int .u8 0)).setCell ⟨w.heap.size, 1, none⟩ (.int .u8 0)).setCell ⟨w.heap.size, 2, none⟩ (.int .u8 0)).setCell ⟨w.heap.size, 3, none⟩ (.int .u8 0) = W2 at *
    have r0 : W2.cell? ⟨w.heap.size, 0, none⟩ = some (.int .u8 0) := by rw [cell_of_row W2 w.heap.size 0 _ _ _ b3]; rfl
    have r1 : W2.cell? ⟨w.heap.size, 1, none⟩ = some (.int .u8 0) := by rw [cell_of_row W2 w.heap.size 1 _ _ _ b3]; rfl
    have r2 : W2.cell? ⟨w.heap.size, 2, none⟩ = some (.int .u8 0) := by rw [cell_of_row W2 w.heap.size 2 _ _ _ b3]; rfl
    have r3 : W2.cell? ⟨w.heap.size, 3, none⟩ = some (.int .u8 0) := by rw [cell_of_row W2 w.heap.size 3 _ _ _ b3]; rfl
    refine bodyPost_ret (by simp [results, Tryz.results76, go_sem, r0, r1, r2, r3]; try rfl) rfl ?_
    exact ⟨RQ.none HN.out, k3⟩

def parN (l : List UInt8) : Int := ((addrL l).getD 0 : Nat)
def parE (l : List UInt8) : Int := if (addrL l).isSome then 0 else 30
end Go.Proofs.YtkpdbbbeagnjpaaGreatDoor
/-
  Two addresses, byte by byte: the comparison of arrays. No condition.
-/
namespace Go.Proofs.YtkpdbbbeagnjpaaGreatDoor
open Go.RowKit Go.Lib
set_option maxRecDepth 100000 in
theorem eq4' (n : Nat) (a b c d a' b' c' d' : Int) (w : World) : Sem.run Tryz.prog (Op.equalIn (n + 1 + 1) 107 (.agg #[.int .u8 a, .int .u8 b, .int .u8 c, .int .u8 d]) (.agg #[.int .u8 a', .int .u8 b', .int .u8 c', .int .u8 d'])) w = .ok (a == a' && b == b' && c == c' && d == d') w := by
  have h55 := Tryz.underlying107
  have hs : ∀ w, (sizeOf 5).run Tryz.prog w = .ok 1 w := fun w => Tryz.sizeOf5 w
  have hi := fun (x y : Int) (w : World) => run_equalIn_int (P := Tryz.prog) w n 5 .u8 .u8 x y Tryz.underlying5
  have p0 : ∀ (x y z u : Value) (w : World), (part 5 #[x, y, z, u] 0).run Tryz.prog w = .ok x w := fun x y z u w => by kernel_rfl
  have p1 : ∀ (x y z u : Value) (w : World), (part 5 #[x, y, z, u] 1).run Tryz.prog w = .ok y w := fun x y z u w => by kernel_rfl
  have p2 : ∀ (x y z u : Value) (w : World), (part 5 #[x, y, z, u] 2).run Tryz.prog w = .ok z w := fun x y z u w => by kernel_rfl
  have p3 : ∀ (x y z u : Value) (w : World), (part 5 #[x, y, z, u] 3).run Tryz.prog w = .ok u w := fun x y z u w => by kernel_rfl
  rw [Op.equalIn]
  simp only [Sem.run_bind, run_underlying h55, Result.andThen_ok, hs]
  rw [Std.Legacy.Range.forIn_eq_forIn_range']
  cases h0 : (a == a') <;> cases h1 : (b == b') <;> cases h2 : (c == c') <;> cases h3 : (d == d') <;>
    simp [Std.Legacy.Range.size, List.range', List.forIn_cons, Sem.run_bind, p0, p1, p2, p3, hi, h0, h1, h2, h3]
theorem eq4 (a b c d a' b' c' d' : Int) (w : World) : Sem.run Tryz.prog (Op.equalIn 10000 107 (.agg #[.int .u8 a, .int .u8 b, .int .u8 c, .int .u8 d]) (.agg #[.int .u8 a', .int .u8 b', .int .u8 c', .int .u8 d'])) w = .ok (a == a' && b == b' && c == c' && d == d') w := eq4' 9998 a b c d a' b' c' d' w
end Go.Proofs.YtkpdbbbeagnjpaaGreatDoor
/-
  first, last, leads by their contracts. Condition: a number of bits is 0 to 32.
-/
namespace Go.Proofs.YtkpdbbbeagnjpaaGreatDoor
open Go.RowKit Go.Lib
set_option maxRecDepth 100000 in
set_option maxHeartbeats 4000000 in
theorem first_of (a b c d k : Nat) (ha : a < 256) (hb : b < 256) (hc : c < 256) (hd : d < 256) (w : World)
    (hm : ∀ w, Calls Tryz.prog 99 #[.int .i64 k] w fun e w' => e = .returned (.agg #[.int .u8 (mk k 0 : Nat), .int .u8 (mk k 1 : Nat), .int .u8 (mk k 2 : Nat), .int .u8 (mk k 3 : Nat)]) ∧ w' = (w.alloc (.cells #[.int .u8 (mk k 0 : Nat), .int .u8 (mk k 1 : Nat), .int .u8 (mk k 2 : Nat), .int .u8 (mk k 3 : Nat)] 107)).alloc (.cells #[.int .u8 (mk k 0 : Nat), .int .u8 (mk k 1 : Nat), .int .u8 (mk k 2 : Nat), .int .u8 (mk k 3 : Nat)] 107)) :
    Calls Tryz.prog 89 #[.agg #[.int .u8 a, .int .u8 b, .int .u8 c, .int .u8 d], .int .i64 k] w fun e w' => e = .returned (.agg #[.int .u8 (a &&& mk k 0 : Nat), .int .u8 (b &&& mk k 1 : Nat), .int .u8 (c &&& mk k 2 : Nat), .int .u8 (d &&& mk k 3 : Nat)]) ∧ Below w.heap.size w w' := by
  have e0 := u8_and_nat a (mk k 0) ha (mk_lt k 0)
  have e1 := u8_and_nat b (mk k 1) hb (mk_lt k 1)
  have e2 := u8_and_nat c (mk k 2) hc (mk_lt k 2)
  have e3 := u8_and_nat d (mk k 3) hd (mk_lt k 3)
  generalize mk k 0 = m0 at *
  generalize mk k 1 = m1 at *
  generalize mk k 2 = m2 at *
  generalize mk k 3 = m3 at *
  go_enter Tryz.func89, Tryz.ntmps89
  go_wp2_with (go_at_call 99; refine (hm _).mono ?_; rintro e w2 ⟨rfl, rfl⟩)
  refine wp_loop_rounds 5 ?_
  rw [rounds_succ]
  go_wp2
  go_region
  go_wp2
  rw [rounds_succ]
  go_wp2
  go_region
  go_wp2
  rw [rounds_succ]
  go_wp2
  go_region
  go_wp2
  rw [rounds_succ]
  go_wp2
  go_region
  go_wp2
  rw [rounds_succ]
  go_wp2
  refine bodyPost_ret (by simp [results, Tryz.results89, go_sem]; try rfl) rfl ?_
  refine ⟨rfl, ?_⟩
  exact (al (al (al (al (al (Below.refl _ _) _) _) _) _) _).drew.drew.drew.drew

set_option maxRecDepth 100000 in
set_option maxHeartbeats 4000000 in
theorem leads_of (a b c d k : Nat) (ha : a < 256) (hb : b < 256) (hc : c < 256) (hd : d < 256) (hk : k ≤ 32) (w : World)
    (hm : ∀ w, Calls Tryz.prog 99 #[.int .i64 k] w fun e w' => e = .returned (.agg #[.int .u8 (mk k 0 : Nat), .int .u8 (mk k 1 : Nat), .int .u8 (mk k 2 : Nat), .int .u8 (mk k 3 : Nat)]) ∧ w' = (w.alloc (.cells #[.int .u8 (mk k 0 : Nat), .int .u8 (mk k 1 : Nat), .int .u8 (mk k 2 : Nat), .int .u8 (mk k 3 : Nat)] 107)).alloc (.cells #[.int .u8 (mk k 0 : Nat), .int .u8 (mk k 1 : Nat), .int .u8 (mk k 2 : Nat), .int .u8 (mk k 3 : Nat)] 107)) :
    Calls Tryz.prog 78 #[.agg #[.int .u8 a, .int .u8 b, .int .u8 c, .int .u8 d], .int .i64 k] w fun e w' => e = .returned (.bool (decide (W4 a b c d % 2 ^ (32 - k) = 0))) ∧ Below w.heap.size w w' := by
  have hf := fun w => first_of a b c d k ha hb hc hd w hm
  have hl : decide (W4 a b c d % 2 ^ (32 - k) = 0) = decide (a &&& mk k 0 = a ∧ b &&& mk k 1 = b ∧ c &&& mk k 2 = c ∧ d &&& mk k 3 = d) := decide_eq_decide.2 (leads_iff a b c d k ha hb hc hd hk).symm
  rw [hl]
  clear hm hl
  generalize a &&& mk k 0 = m0 at *
  generalize b &&& mk k 1 = m1 at *
  generalize c &&& mk k 2 = m2 at *
  generalize d &&& mk k 3 = m3 at *
  go_enter Tryz.func78, Tryz.ntmps78
  go_wp2
  generalize hW : w.alloc (.cells #[.int .u8 (a : Int), .int .u8 (b : Int), .int .u8 (c : Int), .int .u8 (d : Int)] 107) = W
  have q0 : W.cell? ⟨w.heap.size, 0, none⟩ = some (.int .u8 (a : Int)) := by rw [← hW]; simp
  have q1 : W.cell? ⟨w.heap.size, 1, none⟩ = some (.int .u8 (b : Int)) := by rw [← hW]; simp
  have q2 : W.cell? ⟨w.heap.size, 2, none⟩ = some (.int .u8 (c : Int)) := by rw [← hW]; simp
  have q3 : W.cell? ⟨w.heap.size, 3, none⟩ = some (.int .u8 (d : Int)) := by rw [← hW]; simp
  have hws : w.heap.size < W.heap.size := by rw [← hW]; simp
  have HB : Hid (Below w.heap.size w W) := by rw [← hW]; exact al (Below.refl _ _) _
  have q5 := eq4 m0 m1 m2 m3 a b c d
  have HD : Hid (Below W.heap.size W W.drew) := (Below.refl _ _).drew
  refine wp_region_quiet (C := fun w' => Below W.heap.size W w') (by kernel_rfl) (by kernel_rfl) HD.out ?_
  refine QW.out (l := _ :: _) ?_
  iterate 2 (refine QW.take (by rfl) ?_; apply Exists.intro; refine ⟨fun w' hw' => ?_, ?_⟩; (· (have g0 := (hw'.cell (p := ⟨w.heap.size, 0, none⟩) hws).trans q0; have g1 := (hw'.cell (p := ⟨w.heap.size, 1, none⟩) hws).trans q1; have g2 := (hw'.cell (p := ⟨w.heap.size, 2, none⟩) hws).trans q2; have g3 := (hw'.cell (p := ⟨w.heap.size, 3, none⟩) hws).trans q3; go_simp; first | done | (first | done | rfl))); try simp only [Act.put, List.setIfInBounds_toArray, List.set_cons_zero, List.set_cons_succ])
  iterate 1 (refine QW.take (by rfl) ?_; apply Exists.intro; refine ⟨fun w' hw' => ?_, ?_⟩; (· (have g0 := (hw'.cell (p := ⟨w.heap.size, 0, none⟩) hws).trans q0; have g1 := (hw'.cell (p := ⟨w.heap.size, 1, none⟩) hws).trans q1; have g2 := (hw'.cell (p := ⟨w.heap.size, 2, none⟩) hws).trans q2; have g3 := (hw'.cell (p := ⟨w.heap.size, 3, none⟩) hws).trans q3; go_simp; (refine (hf _).mono ?_; rintro e w2 ⟨rfl, x2⟩; exact ⟨rfl, hw'.trans (x2.mono hw'.size)⟩))); try simp only [Act.put, List.setIfInBounds_toArray, List.set_cons_zero, List.set_cons_succ])
  iterate 3 (refine QW.take (by rfl) ?_; apply Exists.intro; refine ⟨fun w' hw' => ?_, ?_⟩; (· (have g0 := (hw'.cell (p := ⟨w.heap.size, 0, none⟩) hws).trans q0; have g1 := (hw'.cell (p := ⟨w.heap.size, 1, none⟩) hws).trans q1; have g2 := (hw'.cell (p := ⟨w.heap.size, 2, none⟩) hws).trans q2; have g3 := (hw'.cell (p := ⟨w.heap.size, 3, none⟩) hws).trans q3; go_simp; first | done | (first | done | rfl))); try simp only [Act.put, List.setIfInBounds_toArray, List.set_cons_zero, List.set_cons_succ])
  refine QW.nil ?_
  intro w2 x2
  have X2 := hide x2
  clear x2 q0 q1 q2 q3 q5
  go_wp2
  go_ret
  have e : (((m0 : Int) == a) && ((m1 : Int) == b) && ((m2 : Int) == c) && ((m3 : Int) == d)) = decide (m0 = a ∧ m1 = b ∧ m2 = c ∧ m3 = d) := by
    rw [Bool.eq_iff_iff]
    simp [and_assoc, Int.ofNat_inj]
  exact ⟨by rw [← e]; rfl, bt HB.out X2.out (Nat.le_refl _)⟩
end Go.Proofs.YtkpdbbbeagnjpaaGreatDoor
