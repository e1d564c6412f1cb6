/-
  ParsePrefix by its contract. Condition: a text is no longer than a process can hold.
-/
import Derived.Test.YtlmhofjiobmodaaGreatDoorQ35
import Derived.Test.YtlmhofjiobmodaaGreatDoorQ37
namespace Go.Proofs.YtlmhofjiobmodaaGreatDoor
open Go.RowKit Go.Lib

/-- A block of two cells, read. -/
theorem two_get {w : World} {b : Nat} {x y : Value} {T : TypeId} (h : w.heap[b]? = some (.cells #[x, y] T (0, 0))) :
    w.cell? ⟨b, 0, none⟩ = some x ∧ w.cell? ⟨b, 1, none⟩ = some y ∧ w.frozen? ⟨b, 0, none⟩ = false ∧ w.frozen? ⟨b, 1, none⟩ = false :=
  ⟨by rw [cell_of_row w b 0 _ _ _ h]; rfl, by rw [cell_of_row w b 1 _ _ _ h]; rfl, frozen_of_row w b 0 _ _ h, frozen_of_row w b 1 _ _ h⟩
/-- .. and written. -/
theorem two_set {w : World} {b : Nat} {x y : Value} {T : TypeId} (h : w.heap[b]? = some (.cells #[x, y] T (0, 0))) (u v : Value) :
    ((w.setCell ⟨b, 0, none⟩ u).setCell ⟨b, 1, none⟩ v).heap[b]? = some (.cells #[u, v] T (0, 0)) := block_setCell (block_setCell h 0 u) 1 v

def pfxA (l : List UInt8) : Int := (((pfxL l).getD (0, 0)).1 : Nat)
def pfxB (l : List UInt8) : Int := (((pfxL l).getD (0, 0)).2 : Nat)
def pfxE (l : List UInt8) : Int := if (pfxL l).isSome then 0 else 30

set_option maxRecDepth 100000 in
set_option maxHeartbeats 8000000 in
theorem parsePrefix_any (l : List UInt8) (hl : l.length ≤ 140737488351232) (w : World) : Calls Tryz.prog 131 #[.string ⟨l.toArray⟩] w fun e w' => e = .returned (.tuple #[.agg #[.int .i64 (pfxA l), .int .i64 (pfxB l)], .int .i64 (pfxE l)]) ∧ Below w.heap.size w w' := by
  have hB : Below w.heap.size w (w.alloc (.cells #[.int .i64 0, .int .i64 0] 47)) := al (Below.refl _ _) _
  have hR := heap_alloc_new w (.cells #[.int .i64 0, .int .i64 0] 47)
  have hws : w.heap.size < (w.alloc (.cells #[.int .i64 0, .int .i64 0] 47)).heap.size := by simp
  cases ec : cutL 47 l with
  | none =>
    have hcut := cut_none ec
    cases ea : addrL l with
    | none =>
      have e0 : pfxL l = none := by simp [pfxL, ec, ea]
      have e1 : pfxA l = 0 := by simp [pfxA, e0]
      have e2 : pfxB l = 0 := by simp [pfxB, e0]
      have e3 : pfxE l = 30 := by simp [pfxE, e0]
      rw [e1, e2, e3]
      clear e0 e1 e2 e3 ec
      have HN := hide ea
      clear ea
      go_enter Tryz.func131, Tryz.ntmps131
      go_wp2_with (first | (go_at_call 159; generalize hW : w.alloc (.cells #[.int .i64 0, .int .i64 0] 47) = W at *; refine (hcut _).mono ?_; rintro e w1 ⟨rfl, hw1⟩; have hw1 := hw1.symm; subst hw1; clear hW) | (go_at_call 160; refine (readQuad_any l (by omega) W).mono ?_; rintro e w2 ⟨⟨a, b, c, d, ⟨l1, l2, l3, l4⟩, rfl, hn⟩, x2⟩; rw [HN.out]; simp only [Option.isSome_none]; have X2 := hide (show Below W.heap.size W w2 from ⟨x2.os, x2.tape, x2.output, x2.size, x2.block⟩); have B2 := hide ((x2.block w.heap.size hws).trans hR); obtain ⟨c0, c1, f0, f1⟩ := two_get B2.out; clear x2 hn; have B3 := hide ((Below.heap_alloc w2 (.cells #[.int .u8 (a : Int), .int .u8 (b : Int), .int .u8 (c : Int), .int .u8 (d : Int)] 193) w.heap.size (Nat.lt_of_lt_of_le hws X2.out.size)).trans B2.out); obtain ⟨d0, d1, g0, g1⟩ := two_get B3.out))
      have b9 := two_set B3.out (.int .i64 0) (.int .i64 0)
      have k9 : Below w.heap.size w (((w2.alloc (.cells #[.int .u8 (a : Int), .int .u8 (b : Int), .int .u8 (c : Int), .int .u8 (d : Int)] 193)).setCell ⟨w.heap.size, 0, none⟩ (.int .i64 0)).setCell ⟨w.heap.size, 1, none⟩ (.int .i64 0)) := ((bt hB (al X2.out _) (Nat.le_refl _)).setCell (by simp) _).setCell (by simp) _
      generalize ((w2.alloc (.cells #[.int .u8 (a : Int), .int .u8 (b : Int), .int .u8 (c : Int), .int .u8 (d : Int)] 193)).setCell ⟨w.heap.size, 0, none⟩ (.int .i64 0)).setCell ⟨w.heap.size, 1, none⟩ (.int .i64 0) = W9 at *
      obtain ⟨r0, r1, _, _⟩ := two_get b9
      refine bodyPost_ret (by simp [results, Tryz.results131, go_sem, r0, r1]; try rfl) rfl ?_
      exact ⟨rfl, k9⟩
    | some n =>
      have e0 : pfxL l = some (n, 32) := by simp [pfxL, ec, ea]
      have hz : decide (n % 2 ^ (32 - 32) = 0) = true := by simp [Nat.mod_one]
      have e1 : pfxA l = n := by simp [pfxA, e0]
      have e2 : pfxB l = 32 := by simp [pfxB, e0]
      have e3 : pfxE l = 0 := by simp [pfxE, e0]
      rw [e1, e2, e3]
      clear e0 e1 e2 e3 ec
      have HN := hide ea
      clear ea
      go_enter Tryz.func131, Tryz.ntmps131
      go_wp2_with (first | (go_at_call 159; generalize hW : w.alloc (.cells #[.int .i64 0, .int .i64 0] 47) = W at *; refine (hcut _).mono ?_; rintro e w1 ⟨rfl, hw1⟩; have hw1 := hw1.symm; subst hw1; clear hW) | (go_at_call 160; refine (readQuad_any l (by omega) W).mono ?_; rintro e w2 ⟨⟨a, b, c, d, ⟨l1, l2, l3, l4⟩, rfl, hn⟩, x2⟩; rw [HN.out]; simp only [Option.isSome_some]; have H5 := hide (hn n HN.out); have X2 := hide (show Below W.heap.size W w2 from ⟨x2.os, x2.tape, x2.output, x2.size, x2.block⟩); have B2 := hide ((x2.block w.heap.size hws).trans hR); obtain ⟨c0, c1, f0, f1⟩ := two_get B2.out; clear x2 hn; have B3 := hide ((Below.heap_alloc w2 (.cells #[.int .u8 (a : Int), .int .u8 (b : Int), .int .u8 (c : Int), .int .u8 (d : Int)] 193) w.heap.size (Nat.lt_of_lt_of_le hws X2.out.size)).trans B2.out); have X3 := hide (al X2.out (.cells #[.int .u8 (a : Int), .int .u8 (b : Int), .int .u8 (c : Int), .int .u8 (d : Int)] 193)); have q0 : (w2.alloc (.cells #[.int .u8 (a : Int), .int .u8 (b : Int), .int .u8 (c : Int), .int .u8 (d : Int)] 193)).cell? ⟨w2.heap.size, 0, none⟩ = some (.int .u8 (a : Int)) := (by simp); have q1 : (w2.alloc (.cells #[.int .u8 (a : Int), .int .u8 (b : Int), .int .u8 (c : Int), .int .u8 (d : Int)] 193)).cell? ⟨w2.heap.size, 1, none⟩ = some (.int .u8 (b : Int)) := (by simp); have q2 : (w2.alloc (.cells #[.int .u8 (a : Int), .int .u8 (b : Int), .int .u8 (c : Int), .int .u8 (d : Int)] 193)).cell? ⟨w2.heap.size, 2, none⟩ = some (.int .u8 (c : Int)) := (by simp); have q3 : (w2.alloc (.cells #[.int .u8 (a : Int), .int .u8 (b : Int), .int .u8 (c : Int), .int .u8 (d : Int)] 193)).cell? ⟨w2.heap.size, 3, none⟩ = some (.int .u8 (d : Int)) := (by simp); have hw3 : w2.heap.size < (w2.alloc (.cells #[.int .u8 (a : Int), .int .u8 (b : Int), .int .u8 (c : Int), .int .u8 (d : Int)] 193)).heap.size := (by simp)) | (go_at_call 162; generalize w2.alloc (.cells #[.int .u8 (a : Int), .int .u8 (b : Int), .int .u8 (c : Int), .int .u8 (d : Int)] 193) = w3 at *; have hld := leads_any a b c d 32 l1 l2 l3 l4 (by omega) w3; rw [H5.out, hz] at hld; refine hld.mono ?_; rintro e w4 ⟨rfl, x4⟩; have X4 := hide (bt X3.out x4 (Nat.le_refl _)); have B4 := hide ((x4.block w.heap.size (Nat.lt_of_lt_of_le hws X3.out.size)).trans B3.out); obtain ⟨d0, d1, g0, g1⟩ := two_get B4.out; have q4 := (x4.cell (p := ⟨w2.heap.size, 0, none⟩) hw3).trans q0; have q5 := (x4.cell (p := ⟨w2.heap.size, 1, none⟩) hw3).trans q1; have q6 := (x4.cell (p := ⟨w2.heap.size, 2, none⟩) hw3).trans q2; have q7 := (x4.cell (p := ⟨w2.heap.size, 3, none⟩) hw3).trans q3; clear x4 hld q0 q1 q2 q3) | (go_at_call 163; have hwd := word_any a b c d l1 l2 l3 l4 w4; rw [H5.out] at hwd; refine hwd.mono ?_; rintro e w5 ⟨rfl, x5⟩; have X5 := hide (bt X4.out x5 (Nat.le_refl _)); have B5 := hide ((x5.block w.heap.size (Nat.lt_of_lt_of_le hws X4.out.size)).trans B4.out); obtain ⟨m0, m1, n0, n1⟩ := two_get B5.out; clear x5 hwd d0 d1 g0 g1))
      have b9 := two_set B5.out (.int .i64 (n : Int)) (.int .i64 32)
      have k9 : Below w.heap.size w ((w5.setCell ⟨w.heap.size, 0, none⟩ (.int .i64 (n : Int))).setCell ⟨w.heap.size, 1, none⟩ (.int .i64 32)) := ((bt hB X5.out (Nat.le_refl _)).setCell (by simp) _).setCell (by simp) _
      generalize (w5.setCell ⟨w.heap.size, 0, none⟩ (.int .i64 (n : Int))).setCell ⟨w.heap.size, 1, none⟩ (.int .i64 32) = W9 at *
      obtain ⟨r0, r1, _, _⟩ := two_get b9
      refine bodyPost_ret (by simp [results, Tryz.results131, go_sem, r0, r1]; try rfl) rfl ?_
      exact ⟨rfl, k9⟩
  | some x =>
    obtain ⟨p, r⟩ := x
    have hcut := cut_some ec hl
    have hcl := cut_len ec
    cases ea : addrL p with
    | none =>
      have e0 : pfxL l = none := by simp [pfxL, ec, ea]
      have e1 : pfxA l = 0 := by simp [pfxA, e0]
      have e2 : pfxB l = 0 := by simp [pfxB, e0]
      have e3 : pfxE l = 30 := by simp [pfxE, e0]
      rw [e1, e2, e3]
      clear e0 e1 e2 e3 ec
      have HN := hide ea
      clear ea
      go_enter Tryz.func131, Tryz.ntmps131
      go_wp2_with (first | (go_at_call 159; generalize hW : w.alloc (.cells #[.int .i64 0, .int .i64 0] 47) = W at *; refine (hcut _).mono ?_; rintro e w1 ⟨rfl, hw1⟩; subst hw1; clear hW) | (go_at_call 160; refine (readQuad_any p (by omega) W.drew).mono ?_; rintro e w2 ⟨⟨a, b, c, d, ⟨l1, l2, l3, l4⟩, rfl, hn⟩, x2⟩; rw [HN.out]; simp only [Option.isSome_none]; have X2 := hide (show Below W.heap.size W w2 from ⟨x2.os, x2.tape, x2.output, x2.size, x2.block⟩); have B2 := hide ((x2.block w.heap.size hws).trans hR); obtain ⟨c0, c1, f0, f1⟩ := two_get B2.out; clear x2 hn; have B3 := hide ((Below.heap_alloc w2 (.cells #[.int .u8 (a : Int), .int .u8 (b : Int), .int .u8 (c : Int), .int .u8 (d : Int)] 193) w.heap.size (Nat.lt_of_lt_of_le hws X2.out.size)).trans B2.out); obtain ⟨d0, d1, g0, g1⟩ := two_get B3.out))
      have b9 := two_set B3.out (.int .i64 0) (.int .i64 0)
      have k9 : Below w.heap.size w (((w2.alloc (.cells #[.int .u8 (a : Int), .int .u8 (b : Int), .int .u8 (c : Int), .int .u8 (d : Int)] 193)).setCell ⟨w.heap.size, 0, none⟩ (.int .i64 0)).setCell ⟨w.heap.size, 1, none⟩ (.int .i64 0)) := ((bt hB (al X2.out _) (Nat.le_refl _)).setCell (by simp) _).setCell (by simp) _
      generalize ((w2.alloc (.cells #[.int .u8 (a : Int), .int .u8 (b : Int), .int .u8 (c : Int), .int .u8 (d : Int)] 193)).setCell ⟨w.heap.size, 0, none⟩ (.int .i64 0)).setCell ⟨w.heap.size, 1, none⟩ (.int .i64 0) = W9 at *
      obtain ⟨r0, r1, _, _⟩ := two_get b9
      refine bodyPost_ret (by simp [results, Tryz.results131, go_sem, r0, r1]; try rfl) rfl ?_
      exact ⟨rfl, k9⟩
    | some n =>
      have hrn := readNumber_any r 32 (by decide) (by omega)
      cases er : rn r 32 with
      | none =>
        have e0 : pfxL l = none := by simp [pfxL, ec, ea, er]
        rw [er] at hrn
        simp only [Option.getD_none, Option.isSome_none] at hrn
        have e1 : pfxA l = 0 := by simp [pfxA, e0]
        have e2 : pfxB l = 0 := by simp [pfxB, e0]
        have e3 : pfxE l = 30 := by simp [pfxE, e0]
        rw [e1, e2, e3]
        clear e0 e1 e2 e3 ec
        have HN := hide ea
        clear ea er
        go_enter Tryz.func131, Tryz.ntmps131
        go_wp2_with (first | (go_at_call 159; generalize hW : w.alloc (.cells #[.int .i64 0, .int .i64 0] 47) = W at *; refine (hcut _).mono ?_; rintro e w1 ⟨rfl, hw1⟩; subst hw1; clear hW) | (go_at_call 160; refine (readQuad_any p (by omega) W.drew).mono ?_; rintro e w2 ⟨⟨a, b, c, d, ⟨l1, l2, l3, l4⟩, rfl, hn⟩, x2⟩; rw [HN.out]; simp only [Option.isSome_some]; have H5 := hide (hn n HN.out); have X2 := hide (show Below W.heap.size W w2 from ⟨x2.os, x2.tape, x2.output, x2.size, x2.block⟩); have B2 := hide ((x2.block w.heap.size hws).trans hR); obtain ⟨c0, c1, f0, f1⟩ := two_get B2.out; clear x2 hn; have B3 := hide ((Below.heap_alloc w2 (.cells #[.int .u8 (a : Int), .int .u8 (b : Int), .int .u8 (c : Int), .int .u8 (d : Int)] 193) w.heap.size (Nat.lt_of_lt_of_le hws X2.out.size)).trans B2.out); have X3 := hide (al X2.out (.cells #[.int .u8 (a : Int), .int .u8 (b : Int), .int .u8 (c : Int), .int .u8 (d : Int)] 193)); have q0 : (w2.alloc (.cells #[.int .u8 (a : Int), .int .u8 (b : Int), .int .u8 (c : Int), .int .u8 (d : Int)] 193)).cell? ⟨w2.heap.size, 0, none⟩ = some (.int .u8 (a : Int)) := (by simp); have q1 : (w2.alloc (.cells #[.int .u8 (a : Int), .int .u8 (b : Int), .int .u8 (c : Int), .int .u8 (d : Int)] 193)).cell? ⟨w2.heap.size, 1, none⟩ = some (.int .u8 (b : Int)) := (by simp); have q2 : (w2.alloc (.cells #[.int .u8 (a : Int), .int .u8 (b : Int), .int .u8 (c : Int), .int .u8 (d : Int)] 193)).cell? ⟨w2.heap.size, 2, none⟩ = some (.int .u8 (c : Int)) := (by simp); have q3 : (w2.alloc (.cells #[.int .u8 (a : Int), .int .u8 (b : Int), .int .u8 (c : Int), .int .u8 (d : Int)] 193)).cell? ⟨w2.heap.size, 3, none⟩ = some (.int .u8 (d : Int)) := (by simp); have hw3 : w2.heap.size < (w2.alloc (.cells #[.int .u8 (a : Int), .int .u8 (b : Int), .int .u8 (c : Int), .int .u8 (d : Int)] 193)).heap.size := (by simp); obtain ⟨d0, d1, g0, g1⟩ := two_get B3.out) | (go_at_call 161; refine (hrn _).mono ?_; rintro e w7 ⟨rfl, hw7⟩; subst hw7))
        have b9 := two_set B3.out (.int .i64 0) (.int .i64 0)
        have k9 : Below w.heap.size w (((w2.alloc (.cells #[.int .u8 (a : Int), .int .u8 (b : Int), .int .u8 (c : Int), .int .u8 (d : Int)] 193)).setCell ⟨w.heap.size, 0, none⟩ (.int .i64 0)).setCell ⟨w.heap.size, 1, none⟩ (.int .i64 0)) := ((bt hB X3.out (Nat.le_refl _)).setCell (by simp) _).setCell (by simp) _
        generalize ((w2.alloc (.cells #[.int .u8 (a : Int), .int .u8 (b : Int), .int .u8 (c : Int), .int .u8 (d : Int)] 193)).setCell ⟨w.heap.size, 0, none⟩ (.int .i64 0)).setCell ⟨w.heap.size, 1, none⟩ (.int .i64 0) = W9 at *
        obtain ⟨r0, r1, _, _⟩ := two_get b9
        refine bodyPost_ret (by simp [results, Tryz.results131, go_sem, r0, r1]; try rfl) rfl ?_
        exact ⟨rfl, k9⟩
      | some k =>
        have hk := rn_le er
        rw [er] at hrn
        simp only [Option.getD_some, Option.isSome_some] at hrn
        by_cases hm : n % 2 ^ (32 - k) = 0
        · have e0 : pfxL l = some (n, k) := by simp [pfxL, ec, ea, er, hm]
          have hz := decide_eq_true hm
          have e1 : pfxA l = n := by simp [pfxA, e0]
          have e2 : pfxB l = k := by simp [pfxB, e0]
          have e3 : pfxE l = 0 := by simp [pfxE, e0]
          rw [e1, e2, e3]
          clear e0 e1 e2 e3 ec
          have HN := hide ea
          clear ea er hm
          go_enter Tryz.func131, Tryz.ntmps131
          go_wp2_with (first | (go_at_call 159; generalize hW : w.alloc (.cells #[.int .i64 0, .int .i64 0] 47) = W at *; refine (hcut _).mono ?_; rintro e w1 ⟨rfl, hw1⟩; subst hw1; clear hW) | (go_at_call 160; refine (readQuad_any p (by omega) W.drew).mono ?_; rintro e w2 ⟨⟨a, b, c, d, ⟨l1, l2, l3, l4⟩, rfl, hn⟩, x2⟩; rw [HN.out]; simp only [Option.isSome_some]; have H5 := hide (hn n HN.out); have X2 := hide (show Below W.heap.size W w2 from ⟨x2.os, x2.tape, x2.output, x2.size, x2.block⟩); have B2 := hide ((x2.block w.heap.size hws).trans hR); obtain ⟨c0, c1, f0, f1⟩ := two_get B2.out; clear x2 hn; have B3 := hide ((Below.heap_alloc w2 (.cells #[.int .u8 (a : Int), .int .u8 (b : Int), .int .u8 (c : Int), .int .u8 (d : Int)] 193) w.heap.size (Nat.lt_of_lt_of_le hws X2.out.size)).trans B2.out); have X3 := hide (al X2.out (.cells #[.int .u8 (a : Int), .int .u8 (b : Int), .int .u8 (c : Int), .int .u8 (d : Int)] 193)); have q0 : (w2.alloc (.cells #[.int .u8 (a : Int), .int .u8 (b : Int), .int .u8 (c : Int), .int .u8 (d : Int)] 193)).cell? ⟨w2.heap.size, 0, none⟩ = some (.int .u8 (a : Int)) := (by simp); have q1 : (w2.alloc (.cells #[.int .u8 (a : Int), .int .u8 (b : Int), .int .u8 (c : Int), .int .u8 (d : Int)] 193)).cell? ⟨w2.heap.size, 1, none⟩ = some (.int .u8 (b : Int)) := (by simp); have q2 : (w2.alloc (.cells #[.int .u8 (a : Int), .int .u8 (b : Int), .int .u8 (c : Int), .int .u8 (d : Int)] 193)).cell? ⟨w2.heap.size, 2, none⟩ = some (.int .u8 (c : Int)) := (by simp); have q3 : (w2.alloc (.cells #[.int .u8 (a : Int), .int .u8 (b : Int), .int .u8 (c : Int), .int .u8 (d : Int)] 193)).cell? ⟨w2.heap.size, 3, none⟩ = some (.int .u8 (d : Int)) := (by simp); have hw3 : w2.heap.size < (w2.alloc (.cells #[.int .u8 (a : Int), .int .u8 (b : Int), .int .u8 (c : Int), .int .u8 (d : Int)] 193)).heap.size := (by simp)) | (go_at_call 161; refine (hrn _).mono ?_; rintro e w7 ⟨rfl, hw7⟩; subst hw7) | (go_at_call 162; generalize w2.alloc (.cells #[.int .u8 (a : Int), .int .u8 (b : Int), .int .u8 (c : Int), .int .u8 (d : Int)] 193) = w3 at *; have hld := leads_any a b c d k l1 l2 l3 l4 (by omega) w3; rw [H5.out, hz] at hld; refine hld.mono ?_; rintro e w4 ⟨rfl, x4⟩; have X4 := hide (bt X3.out x4 (Nat.le_refl _)); have B4 := hide ((x4.block w.heap.size (Nat.lt_of_lt_of_le hws X3.out.size)).trans B3.out); obtain ⟨d0, d1, g0, g1⟩ := two_get B4.out; have q4 := (x4.cell (p := ⟨w2.heap.size, 0, none⟩) hw3).trans q0; have q5 := (x4.cell (p := ⟨w2.heap.size, 1, none⟩) hw3).trans q1; have q6 := (x4.cell (p := ⟨w2.heap.size, 2, none⟩) hw3).trans q2; have q7 := (x4.cell (p := ⟨w2.heap.size, 3, none⟩) hw3).trans q3; clear x4 hld q0 q1 q2 q3) | (go_at_call 163; have hwd := word_any a b c d l1 l2 l3 l4 w4; rw [H5.out] at hwd; refine hwd.mono ?_; rintro e w5 ⟨rfl, x5⟩; have X5 := hide (bt X4.out x5 (Nat.le_refl _)); have B5 := hide ((x5.block w.heap.size (Nat.lt_of_lt_of_le hws X4.out.size)).trans B4.out); obtain ⟨m0, m1, n0, n1⟩ := two_get B5.out; clear x5 hwd d0 d1 g0 g1))
          have b9 := two_set B5.out (.int .i64 (n : Int)) (.int .i64 (k : Int))
          have k9 : Below w.heap.size w ((w5.setCell ⟨w.heap.size, 0, none⟩ (.int .i64 (n : Int))).setCell ⟨w.heap.size, 1, none⟩ (.int .i64 (k : Int))) := ((bt hB X5.out (Nat.le_refl _)).setCell (by simp) _).setCell (by simp) _
          generalize (w5.setCell ⟨w.heap.size, 0, none⟩ (.int .i64 (n : Int))).setCell ⟨w.heap.size, 1, none⟩ (.int .i64 (k : Int)) = W9 at *
          obtain ⟨r0, r1, _, _⟩ := two_get b9
          refine bodyPost_ret (by simp [results, Tryz.results131, go_sem, r0, r1]; try rfl) rfl ?_
          exact ⟨rfl, k9⟩
        · have e0 : pfxL l = none := by simp [pfxL, ec, ea, er, hm]
          have hz := decide_eq_false hm
          have e1 : pfxA l = 0 := by simp [pfxA, e0]
          have e2 : pfxB l = 0 := by simp [pfxB, e0]
          have e3 : pfxE l = 30 := by simp [pfxE, e0]
          rw [e1, e2, e3]
          clear e0 e1 e2 e3 ec
          have HN := hide ea
          clear ea er hm
          go_enter Tryz.func131, Tryz.ntmps131
          go_wp2_with (first | (go_at_call 159; generalize hW : w.alloc (.cells #[.int .i64 0, .int .i64 0] 47) = W at *; refine (hcut _).mono ?_; rintro e w1 ⟨rfl, hw1⟩; subst hw1; clear hW) | (go_at_call 160; refine (readQuad_any p (by omega) W.drew).mono ?_; rintro e w2 ⟨⟨a, b, c, d, ⟨l1, l2, l3, l4⟩, rfl, hn⟩, x2⟩; rw [HN.out]; simp only [Option.isSome_some]; have H5 := hide (hn n HN.out); have X2 := hide (show Below W.heap.size W w2 from ⟨x2.os, x2.tape, x2.output, x2.size, x2.block⟩); have B2 := hide ((x2.block w.heap.size hws).trans hR); obtain ⟨c0, c1, f0, f1⟩ := two_get B2.out; clear x2 hn; have B3 := hide ((Below.heap_alloc w2 (.cells #[.int .u8 (a : Int), .int .u8 (b : Int), .int .u8 (c : Int), .int .u8 (d : Int)] 193) w.heap.size (Nat.lt_of_lt_of_le hws X2.out.size)).trans B2.out); have X3 := hide (al X2.out (.cells #[.int .u8 (a : Int), .int .u8 (b : Int), .int .u8 (c : Int), .int .u8 (d : Int)] 193)); have q0 : (w2.alloc (.cells #[.int .u8 (a : Int), .int .u8 (b : Int), .int .u8 (c : Int), .int .u8 (d : Int)] 193)).cell? ⟨w2.heap.size, 0, none⟩ = some (.int .u8 (a : Int)) := (by simp); have q1 : (w2.alloc (.cells #[.int .u8 (a : Int), .int .u8 (b : Int), .int .u8 (c : Int), .int .u8 (d : Int)] 193)).cell? ⟨w2.heap.size, 1, none⟩ = some (.int .u8 (b : Int)) := (by simp); have q2 : (w2.alloc (.cells #[.int .u8 (a : Int), .int .u8 (b : Int), .int .u8 (c : Int), .int .u8 (d : Int)] 193)).cell? ⟨w2.heap.size, 2, none⟩ = some (.int .u8 (c : Int)) := (by simp); have q3 : (w2.alloc (.cells #[.int .u8 (a : Int), .int .u8 (b : Int), .int .u8 (c : Int), .int .u8 (d : Int)] 193)).cell? ⟨w2.heap.size, 3, none⟩ = some (.int .u8 (d : Int)) := (by simp); have hw3 : w2.heap.size < (w2.alloc (.cells #[.int .u8 (a : Int), .int .u8 (b : Int), .int .u8 (c : Int), .int .u8 (d : Int)] 193)).heap.size := (by simp)) | (go_at_call 161; refine (hrn _).mono ?_; rintro e w7 ⟨rfl, hw7⟩; subst hw7) | (go_at_call 162; generalize w2.alloc (.cells #[.int .u8 (a : Int), .int .u8 (b : Int), .int .u8 (c : Int), .int .u8 (d : Int)] 193) = w3 at *; have hld := leads_any a b c d k l1 l2 l3 l4 (by omega) w3; rw [H5.out, hz] at hld; refine hld.mono ?_; rintro e w4 ⟨rfl, x4⟩; have X4 := hide (bt X3.out x4 (Nat.le_refl _)); have B4 := hide ((x4.block w.heap.size (Nat.lt_of_lt_of_le hws X3.out.size)).trans B3.out); obtain ⟨d0, d1, g0, g1⟩ := two_get B4.out; have q4 := (x4.cell (p := ⟨w2.heap.size, 0, none⟩) hw3).trans q0; have q5 := (x4.cell (p := ⟨w2.heap.size, 1, none⟩) hw3).trans q1; have q6 := (x4.cell (p := ⟨w2.heap.size, 2, none⟩) hw3).trans q2; have q7 := (x4.cell (p := ⟨w2.heap.size, 3, none⟩) hw3).trans q3; clear x4 hld q0 q1 q2 q3))
          have b9 := two_set B4.out (.int .i64 0) (.int .i64 0)
          have k9 : Below w.heap.size w ((w4.setCell ⟨w.heap.size, 0, none⟩ (.int .i64 0)).setCell ⟨w.heap.size, 1, none⟩ (.int .i64 0)) := ((bt hB X4.out (Nat.le_refl _)).setCell (by simp) _).setCell (by simp) _
          generalize (w4.setCell ⟨w.heap.size, 0, none⟩ (.int .i64 0)).setCell ⟨w.heap.size, 1, none⟩ (.int .i64 0) = W9 at *
          obtain ⟨r0, r1, _, _⟩ := two_get b9
          refine bodyPost_ret (by simp [results, Tryz.results131, go_sem, r0, r1]; try rfl) rfl ?_
          exact ⟨rfl, k9⟩
end Go.Proofs.YtlmhofjiobmodaaGreatDoor
