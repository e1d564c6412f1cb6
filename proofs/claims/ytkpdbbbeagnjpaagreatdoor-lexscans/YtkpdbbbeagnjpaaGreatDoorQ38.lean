/-
  The document's ParsePrefix by its contract. Condition: a text is no longer than a process can hold.
-/
import Derived.Test.YtkpdbbbeagnjpaaGreatDoorQ36
import Derived.Test.YtkpdbbbeagnjpaaGreatDoorQ37
import Derived.Test.YtkpdbbbeagnjpaaGreatDoorQ23
namespace Go.Proofs.YtkpdbbbeagnjpaaGreatDoor
open Go.RowKit Go.Lib

theorem blk {w w' : World} {b : Nat} {cs : Array Value} {T : TypeId} {fr : Nat × Nat} (x : Below w.heap.size w w') (h : w.heap[b]? = some (.cells cs T fr)) : w'.heap[b]? = some (.cells cs T fr) := (x.block b (lt_of_block h)).trans h
theorem addrL_some {l : List UInt8} {m : Nat} (h : addrL l = some m) : m < 4294967296 := by
  unfold addrL at h
  cases e1 : cutL 46 l with
  | none => rw [e1] at h; cases h
  | some x1 =>
    obtain ⟨p1, l1⟩ := x1
    rw [e1, Option.bind_some] at h
    cases e2 : cutL 46 l1 with
    | none => simp only [e2] at h; cases h
    | some x2 =>
      obtain ⟨p2, l2⟩ := x2
      simp only [e2, Option.bind_some] at h
      cases e3 : cutL 46 l2 with
      | none => simp only [e3] at h; cases h
      | some x3 =>
        obtain ⟨p3, l3⟩ := x3
        simp only [e3, Option.bind_some] at h
        cases r1 : rn p1 255 with
        | none => simp only [r1] at h; cases h
        | some a =>
          cases r2 : rn p2 255 with
          | none => simp only [r1, r2, Option.bind_some] at h; cases h
          | some b =>
            cases r3 : rn p3 255 with
            | none => simp only [r1, r2, r3, Option.bind_some] at h; cases h
            | some c =>
              cases r4 : rn l3 255 with
              | none => simp only [r1, r2, r3, r4, Option.bind_some] at h; cases h
              | some d =>
                simp only [r1, r2, r3, r4, Option.bind_some, Option.some.injEq] at h
                have s1 := rn_some r1
                have s2 := rn_some r2
                have s3 := rn_some r3
                have s4 := rn_some r4
                subst h
                exact W4_lt a b c d (by omega) (by omega) (by omega) (by omega)

theorem n32_no {l : List UInt8} (hl : l.length ≤ 140737488351232) (h : rn l 32 = none) (w : World) : Calls Tryz.prog 69 #[.string ⟨l.toArray⟩, .int .i64 32] w fun e w' => (∃ x : Int, e = .returned (.tuple #[.int .i64 x, .bool false])) ∧ w' = w :=
  (refNumber_any l 32 (by decide) hl w).mono fun e w' ⟨⟨x, h1, _⟩, h2⟩ => ⟨⟨x, by rw [h1, h]; rfl⟩, h2⟩
theorem n32_yes {l : List UInt8} {m : Nat} (hl : l.length ≤ 140737488351232) (h : rn l 32 = some m) (w : World) : Calls Tryz.prog 69 #[.string ⟨l.toArray⟩, .int .i64 32] w fun e w' => e = .returned (.tuple #[.int .i64 m, .bool true]) ∧ w' = w :=
  (refNumber_any l 32 (by decide) hl w).mono fun e w' ⟨⟨x, h1, h3⟩, h2⟩ => ⟨by rw [h1, h, h3 m h]; rfl, h2⟩
theorem c47n {l : List UInt8} (h : cutL 47 l = none) (hl : l.length ≤ 140737488351232) (w : World) : Calls Tryz.prog 67 #[.string ⟨l.toArray⟩, .int .u8 47] w fun e w' => e = .returned (.tuple #[.string ⟨l.toArray⟩, .string ⟨#[]⟩, .bool false]) ∧ Below w.heap.size w w' := refCut_none h hl w
theorem c47s {l p r : List UInt8} (h : cutL 47 l = some (p, r)) (hl : l.length ≤ 140737488351232) (w : World) : Calls Tryz.prog 67 #[.string ⟨l.toArray⟩, .int .u8 47] w fun e w' => e = .returned (.tuple #[.string ⟨p.toArray⟩, .string ⟨r.toArray⟩, .bool true]) ∧ Below w.heap.size w w' := refCut_some h hl w
theorem pfx_no {l : List UInt8} (h : pfxL l = none) : pfxA l = 0 ∧ pfxB l = 0 ∧ pfxE l = 30 := by simp [pfxA, pfxB, pfxE, h]
theorem pfx_yes {l : List UInt8} {n k : Nat} (h : pfxL l = some (n, k)) : pfxA l = n ∧ pfxB l = k ∧ pfxE l = 0 := by simp [pfxA, pfxB, pfxE, h]
theorem Pfx_iff (n k : Nat) (hn : n < 4294967296) (hk : k ≤ 32) : Pfx (n : Int) (k : Int) ↔ n % 2 ^ (32 - k) = 0 := ⟨fun h => h.2.2.2.2, fun h => ⟨by omega, by omega, by omega, by omega, h⟩⟩
set_option maxRecDepth 100000 in
set_option maxHeartbeats 1000000 in
theorem rpp1 (l : List UInt8) (w : World)
    (hcut : ∀ w, Calls Tryz.prog 67 #[.string ⟨l.toArray⟩, .int .u8 47] w fun e w' => e = .returned (.tuple #[.string ⟨l.toArray⟩, .string ⟨#[]⟩, .bool false]) ∧ Below w.heap.size w w')
    (hpar : ∀ w, Calls Tryz.prog 68 #[.string ⟨l.toArray⟩] w fun e w' => e = .returned (.tuple #[.int .i64 0, .int .i64 30]) ∧ Below w.heap.size w w')
    : Calls Tryz.prog 58 #[.string ⟨l.toArray⟩] w fun e w' => e = .returned (.tuple #[.agg #[.int .i64 0, .int .i64 0], .int .i64 30]) ∧ Below w.heap.size w w' := by
  have hB : Below w.heap.size w (w.alloc (.cells #[.int .i64 0, .int .i64 0] 38)) := al (Below.refl _ _) _
  have hR := heap_alloc_new w (.cells #[.int .i64 0, .int .i64 0] 38)
  have HB := hide hB
  have HR := hide hR
  clear hB hR
  go_enter Tryz.func58, Tryz.ntmps58
  go_wp2_with (first
    | (go_at_call 67; generalize w.alloc (.cells #[.int .i64 0, .int .i64 0] 38) = W at *; refine (hcut _).mono ?_; rintro e w1 ⟨rfl, x1⟩; have X1 := hide (bt HB.out x1 (Nat.le_refl _)); have B1 := hide (blk x1 HR.out); clear x1 hcut)
    | (go_at_call 68; refine (hpar _).mono ?_; rintro e w2 ⟨rfl, x2⟩; have X2 := hide (bt X1.out x2 (Nat.le_refl _)); have B2 := hide (blk x2 B1.out); clear x2 hpar; have B3 := hide (blk (al (Below.refl _ w2) (.cells #[.int .i64 0, .int .i64 32] 38)) B2.out); have X3 := hide (al X2.out (.cells #[.int .i64 0, .int .i64 32] 38)); have P3 := hide (heap_alloc_new w2 (.cells #[.int .i64 0, .int .i64 32] 38)); obtain ⟨c0, c1, f0, f1⟩ := two_get B3.out; obtain ⟨p0, p1, _, _⟩ := two_get P3.out))
  have b9 := two_set B3.out (.int .i64 0) (.int .i64 0)
  have k9 : Below w.heap.size w (((w2.alloc (.cells #[.int .i64 0, .int .i64 32] 38)).setCell ⟨w.heap.size, 0, none⟩ (.int .i64 0)).setCell ⟨w.heap.size, 1, none⟩ (.int .i64 0)) := (X3.out.setCell (Nat.le_refl _) _).setCell (Nat.le_refl _) _
  generalize ((w2.alloc (.cells #[.int .i64 0, .int .i64 32] 38)).setCell ⟨w.heap.size, 0, none⟩ (.int .i64 0)).setCell ⟨w.heap.size, 1, none⟩ (.int .i64 0) = W9 at *
  obtain ⟨r0, r1, _, _⟩ := two_get b9
  refine bodyPost_ret (by simp [results, Tryz.results58, go_sem, r0, r1]; try rfl) rfl ?_
  exact ⟨rfl, k9⟩
set_option maxRecDepth 100000 in
set_option maxHeartbeats 1000000 in
theorem rpp2 (l : List UInt8) (n : Int) (w : World)
    (hcut : ∀ w, Calls Tryz.prog 67 #[.string ⟨l.toArray⟩, .int .u8 47] w fun e w' => e = .returned (.tuple #[.string ⟨l.toArray⟩, .string ⟨#[]⟩, .bool false]) ∧ Below w.heap.size w w')
    (hpar : ∀ w, Calls Tryz.prog 68 #[.string ⟨l.toArray⟩] w fun e w' => e = .returned (.tuple #[.int .i64 n, .int .i64 0]) ∧ Below w.heap.size w w')
    (hrt : ∀ w, Calls Tryz.prog 70 #[.agg #[.int .i64 n, .int .i64 32]] w fun e w' => e = .returned (.bool true) ∧ Below w.heap.size w w')
    : Calls Tryz.prog 58 #[.string ⟨l.toArray⟩] w fun e w' => e = .returned (.tuple #[.agg #[.int .i64 n, .int .i64 32], .int .i64 0]) ∧ Below w.heap.size w w' := by
  have hB : Below w.heap.size w (w.alloc (.cells #[.int .i64 0, .int .i64 0] 38)) := al (Below.refl _ _) _
  have hR := heap_alloc_new w (.cells #[.int .i64 0, .int .i64 0] 38)
  have HB := hide hB
  have HR := hide hR
  clear hB hR
  go_enter Tryz.func58, Tryz.ntmps58
  go_wp2_with (first
    | (go_at_call 67; generalize w.alloc (.cells #[.int .i64 0, .int .i64 0] 38) = W at *; refine (hcut _).mono ?_; rintro e w1 ⟨rfl, x1⟩; have X1 := hide (bt HB.out x1 (Nat.le_refl _)); have B1 := hide (blk x1 HR.out); clear x1 hcut)
    | (go_at_call 68; refine (hpar _).mono ?_; rintro e w2 ⟨rfl, x2⟩; have X2 := hide (bt X1.out x2 (Nat.le_refl _)); have B2 := hide (blk x2 B1.out); clear x2 hpar; have B3 := hide (blk (al (Below.refl _ w2) (.cells #[.int .i64 n, .int .i64 32] 38)) B2.out); have X3 := hide (al X2.out (.cells #[.int .i64 n, .int .i64 32] 38)); have P3 := hide (heap_alloc_new w2 (.cells #[.int .i64 n, .int .i64 32] 38)); obtain ⟨c0, c1, f0, f1⟩ := two_get B3.out; obtain ⟨p0, p1, _, _⟩ := two_get P3.out)
    | (go_at_call 70; generalize w2.alloc (.cells #[.int .i64 n, .int .i64 32] 38) = W3 at *; refine (hrt _).mono ?_; rintro e w4 ⟨rfl, x4⟩; have X4 := hide (bt X3.out x4 (Nat.le_refl _)); have B4 := hide (blk x4 B3.out); have P4 := hide (blk x4 P3.out); clear c0 c1 f0 f1 p0 p1; obtain ⟨c0, c1, f0, f1⟩ := two_get B4.out; obtain ⟨p0, p1, _, _⟩ := two_get P4.out; clear x4 hrt))
  have b9 := two_set B4.out (.int .i64 n) (.int .i64 32)
  have k9 : Below w.heap.size w ((w4.setCell ⟨w.heap.size, 0, none⟩ (.int .i64 n)).setCell ⟨w.heap.size, 1, none⟩ (.int .i64 32)) := (X4.out.setCell (Nat.le_refl _) _).setCell (Nat.le_refl _) _
  generalize (w4.setCell ⟨w.heap.size, 0, none⟩ (.int .i64 n)).setCell ⟨w.heap.size, 1, none⟩ (.int .i64 32) = W9 at *
  obtain ⟨r0, r1, _, _⟩ := two_get b9
  refine bodyPost_ret (by simp [results, Tryz.results58, go_sem, r0, r1]; try rfl) rfl ?_
  exact ⟨rfl, k9⟩
set_option maxRecDepth 100000 in
set_option maxHeartbeats 1000000 in
theorem rpp3 (l p r : List UInt8) (w : World)
    (hcut : ∀ w, Calls Tryz.prog 67 #[.string ⟨l.toArray⟩, .int .u8 47] w fun e w' => e = .returned (.tuple #[.string ⟨p.toArray⟩, .string ⟨r.toArray⟩, .bool true]) ∧ Below w.heap.size w w')
    (hpar : ∀ w, Calls Tryz.prog 68 #[.string ⟨p.toArray⟩] w fun e w' => e = .returned (.tuple #[.int .i64 0, .int .i64 30]) ∧ Below w.heap.size w w')
    (hnum : ∀ w, Calls Tryz.prog 69 #[.string ⟨r.toArray⟩, .int .i64 32] w fun e w' => (∃ (x : Int) (b : Bool), e = .returned (.tuple #[.int .i64 x, .bool b])) ∧ w' = w)
    : Calls Tryz.prog 58 #[.string ⟨l.toArray⟩] w fun e w' => e = .returned (.tuple #[.agg #[.int .i64 0, .int .i64 0], .int .i64 30]) ∧ Below w.heap.size w w' := by
  have hB : Below w.heap.size w (w.alloc (.cells #[.int .i64 0, .int .i64 0] 38)) := al (Below.refl _ _) _
  have hR := heap_alloc_new w (.cells #[.int .i64 0, .int .i64 0] 38)
  have HB := hide hB
  have HR := hide hR
  clear hB hR
  go_enter Tryz.func58, Tryz.ntmps58
  go_wp2_with (first
    | (go_at_call 67; generalize w.alloc (.cells #[.int .i64 0, .int .i64 0] 38) = W at *; refine (hcut _).mono ?_; rintro e w1 ⟨rfl, x1⟩; have X1 := hide (bt HB.out x1 (Nat.le_refl _)); have B1 := hide (blk x1 HR.out); clear x1 hcut)
    | (go_at_call 68; refine (hpar _).mono ?_; rintro e w2 ⟨rfl, x2⟩; have X2 := hide (bt X1.out x2 (Nat.le_refl _)); have B2 := hide (blk x2 B1.out); clear x2 hpar)
    | (go_at_call 69; refine (hnum _).mono ?_; rintro e w9 ⟨⟨x, b, rfl⟩, hw9⟩; subst hw9; have B3 := hide (blk (al (Below.refl _ w9) (.cells #[.int .i64 0, .int .i64 x] 38)) B2.out); have X3 := hide (al X2.out (.cells #[.int .i64 0, .int .i64 x] 38)); have P3 := hide (heap_alloc_new w9 (.cells #[.int .i64 0, .int .i64 x] 38)); obtain ⟨c0, c1, f0, f1⟩ := two_get B3.out; obtain ⟨p0, p1, _, _⟩ := two_get P3.out; clear hnum))
  have b9 := two_set B3.out (.int .i64 0) (.int .i64 0)
  have k9 : Below w.heap.size w (((w9.alloc (.cells #[.int .i64 0, .int .i64 x] 38)).setCell ⟨w.heap.size, 0, none⟩ (.int .i64 0)).setCell ⟨w.heap.size, 1, none⟩ (.int .i64 0)) := (X3.out.setCell (Nat.le_refl _) _).setCell (Nat.le_refl _) _
  generalize ((w9.alloc (.cells #[.int .i64 0, .int .i64 x] 38)).setCell ⟨w.heap.size, 0, none⟩ (.int .i64 0)).setCell ⟨w.heap.size, 1, none⟩ (.int .i64 0) = W9 at *
  obtain ⟨r0, r1, _, _⟩ := two_get b9
  refine bodyPost_ret (by simp [results, Tryz.results58, go_sem, r0, r1]; try rfl) rfl ?_
  exact ⟨rfl, k9⟩
set_option maxRecDepth 100000 in
set_option maxHeartbeats 1000000 in
theorem rpp4 (l p r : List UInt8) (n : Int) (w : World)
    (hcut : ∀ w, Calls Tryz.prog 67 #[.string ⟨l.toArray⟩, .int .u8 47] w fun e w' => e = .returned (.tuple #[.string ⟨p.toArray⟩, .string ⟨r.toArray⟩, .bool true]) ∧ Below w.heap.size w w')
    (hpar : ∀ w, Calls Tryz.prog 68 #[.string ⟨p.toArray⟩] w fun e w' => e = .returned (.tuple #[.int .i64 n, .int .i64 0]) ∧ Below w.heap.size w w')
    (hnum : ∀ w, Calls Tryz.prog 69 #[.string ⟨r.toArray⟩, .int .i64 32] w fun e w' => (∃ x : Int, e = .returned (.tuple #[.int .i64 x, .bool false])) ∧ w' = w)
    : Calls Tryz.prog 58 #[.string ⟨l.toArray⟩] w fun e w' => e = .returned (.tuple #[.agg #[.int .i64 0, .int .i64 0], .int .i64 30]) ∧ Below w.heap.size w w' := by
  have hB : Below w.heap.size w (w.alloc (.cells #[.int .i64 0, .int .i64 0] 38)) := al (Below.refl _ _) _
  have hR := heap_alloc_new w (.cells #[.int .i64 0, .int .i64 0] 38)
  have HB := hide hB
  have HR := hide hR
  clear hB hR
  go_enter Tryz.func58, Tryz.ntmps58
  go_wp2_with (first
    | (go_at_call 67; generalize w.alloc (.cells #[.int .i64 0, .int .i64 0] 38) = W at *; refine (hcut _).mono ?_; rintro e w1 ⟨rfl, x1⟩; have X1 := hide (bt HB.out x1 (Nat.le_refl _)); have B1 := hide (blk x1 HR.out); clear x1 hcut)
    | (go_at_call 68; refine (hpar _).mono ?_; rintro e w2 ⟨rfl, x2⟩; have X2 := hide (bt X1.out x2 (Nat.le_refl _)); have B2 := hide (blk x2 B1.out); clear x2 hpar)
    | (go_at_call 69; refine (hnum _).mono ?_; rintro e w9 ⟨⟨x, rfl⟩, hw9⟩; subst hw9; have B3 := hide (blk (al (Below.refl _ w9) (.cells #[.int .i64 n, .int .i64 x] 38)) B2.out); have X3 := hide (al X2.out (.cells #[.int .i64 n, .int .i64 x] 38)); have P3 := hide (heap_alloc_new w9 (.cells #[.int .i64 n, .int .i64 x] 38)); obtain ⟨c0, c1, f0, f1⟩ := two_get B3.out; obtain ⟨p0, p1, _, _⟩ := two_get P3.out; clear hnum))
  have b9 := two_set B3.out (.int .i64 0) (.int .i64 0)
  have k9 : Below w.heap.size w (((w9.alloc (.cells #[.int .i64 n, .int .i64 x] 38)).setCell ⟨w.heap.size, 0, none⟩ (.int .i64 0)).setCell ⟨w.heap.size, 1, none⟩ (.int .i64 0)) := (X3.out.setCell (Nat.le_refl _) _).setCell (Nat.le_refl _) _
  generalize ((w9.alloc (.cells #[.int .i64 n, .int .i64 x] 38)).setCell ⟨w.heap.size, 0, none⟩ (.int .i64 0)).setCell ⟨w.heap.size, 1, none⟩ (.int .i64 0) = W9 at *
  obtain ⟨r0, r1, _, _⟩ := two_get b9
  refine bodyPost_ret (by simp [results, Tryz.results58, go_sem, r0, r1]; try rfl) rfl ?_
  exact ⟨rfl, k9⟩
set_option maxRecDepth 100000 in
set_option maxHeartbeats 1000000 in
theorem rpp5 (l p r : List UInt8) (n k : Int) (w : World)
    (hcut : ∀ w, Calls Tryz.prog 67 #[.string ⟨l.toArray⟩, .int .u8 47] w fun e w' => e = .returned (.tuple #[.string ⟨p.toArray⟩, .string ⟨r.toArray⟩, .bool true]) ∧ Below w.heap.size w w')
    (hpar : ∀ w, Calls Tryz.prog 68 #[.string ⟨p.toArray⟩] w fun e w' => e = .returned (.tuple #[.int .i64 n, .int .i64 0]) ∧ Below w.heap.size w w')
    (hnum : ∀ w, Calls Tryz.prog 69 #[.string ⟨r.toArray⟩, .int .i64 32] w fun e w' => e = .returned (.tuple #[.int .i64 k, .bool true]) ∧ w' = w)
    (hrt : ∀ w, Calls Tryz.prog 70 #[.agg #[.int .i64 n, .int .i64 k]] w fun e w' => e = .returned (.bool true) ∧ Below w.heap.size w w')
    : Calls Tryz.prog 58 #[.string ⟨l.toArray⟩] w fun e w' => e = .returned (.tuple #[.agg #[.int .i64 n, .int .i64 k], .int .i64 0]) ∧ Below w.heap.size w w' := by
  have hB : Below w.heap.size w (w.alloc (.cells #[.int .i64 0, .int .i64 0] 38)) := al (Below.refl _ _) _
  have hR := heap_alloc_new w (.cells #[.int .i64 0, .int .i64 0] 38)
  have HB := hide hB
  have HR := hide hR
  clear hB hR
  go_enter Tryz.func58, Tryz.ntmps58
  go_wp2_with (first
    | (go_at_call 67; generalize w.alloc (.cells #[.int .i64 0, .int .i64 0] 38) = W at *; refine (hcut _).mono ?_; rintro e w1 ⟨rfl, x1⟩; have X1 := hide (bt HB.out x1 (Nat.le_refl _)); have B1 := hide (blk x1 HR.out); clear x1 hcut)
    | (go_at_call 68; refine (hpar _).mono ?_; rintro e w2 ⟨rfl, x2⟩; have X2 := hide (bt X1.out x2 (Nat.le_refl _)); have B2 := hide (blk x2 B1.out); clear x2 hpar)
    | (go_at_call 69; refine (hnum _).mono ?_; rintro e w9 ⟨rfl, hw9⟩; subst hw9; have B3 := hide (blk (al (Below.refl _ w9) (.cells #[.int .i64 n, .int .i64 k] 38)) B2.out); have X3 := hide (al X2.out (.cells #[.int .i64 n, .int .i64 k] 38)); have P3 := hide (heap_alloc_new w9 (.cells #[.int .i64 n, .int .i64 k] 38)); obtain ⟨c0, c1, f0, f1⟩ := two_get B3.out; obtain ⟨p0, p1, _, _⟩ := two_get P3.out; clear hnum)
    | (go_at_call 70; generalize w9.alloc (.cells #[.int .i64 n, .int .i64 k] 38) = W3 at *; refine (hrt _).mono ?_; rintro e w4 ⟨rfl, x4⟩; have X4 := hide (bt X3.out x4 (Nat.le_refl _)); have B4 := hide (blk x4 B3.out); have P4 := hide (blk x4 P3.out); clear c0 c1 f0 f1 p0 p1; obtain ⟨c0, c1, f0, f1⟩ := two_get B4.out; obtain ⟨p0, p1, _, _⟩ := two_get P4.out; clear x4 hrt))
  have b9 := two_set B4.out (.int .i64 n) (.int .i64 k)
  have k9 : Below w.heap.size w ((w4.setCell ⟨w.heap.size, 0, none⟩ (.int .i64 n)).setCell ⟨w.heap.size, 1, none⟩ (.int .i64 k)) := (X4.out.setCell (Nat.le_refl _) _).setCell (Nat.le_refl _) _
  generalize (w4.setCell ⟨w.heap.size, 0, none⟩ (.int .i64 n)).setCell ⟨w.heap.size, 1, none⟩ (.int .i64 k) = W9 at *
  obtain ⟨r0, r1, _, _⟩ := two_get b9
  refine bodyPost_ret (by simp [results, Tryz.results58, go_sem, r0, r1]; try rfl) rfl ?_
  exact ⟨rfl, k9⟩
set_option maxRecDepth 100000 in
set_option maxHeartbeats 1000000 in
theorem rpp6 (l p r : List UInt8) (n k : Int) (w : World)
    (hcut : ∀ w, Calls Tryz.prog 67 #[.string ⟨l.toArray⟩, .int .u8 47] w fun e w' => e = .returned (.tuple #[.string ⟨p.toArray⟩, .string ⟨r.toArray⟩, .bool true]) ∧ Below w.heap.size w w')
    (hpar : ∀ w, Calls Tryz.prog 68 #[.string ⟨p.toArray⟩] w fun e w' => e = .returned (.tuple #[.int .i64 n, .int .i64 0]) ∧ Below w.heap.size w w')
    (hnum : ∀ w, Calls Tryz.prog 69 #[.string ⟨r.toArray⟩, .int .i64 32] w fun e w' => e = .returned (.tuple #[.int .i64 k, .bool true]) ∧ w' = w)
    (hrt : ∀ w, Calls Tryz.prog 70 #[.agg #[.int .i64 n, .int .i64 k]] w fun e w' => e = .returned (.bool false) ∧ Below w.heap.size w w')
    : Calls Tryz.prog 58 #[.string ⟨l.toArray⟩] w fun e w' => e = .returned (.tuple #[.agg #[.int .i64 0, .int .i64 0], .int .i64 30]) ∧ Below w.heap.size w w' := by
  have hB : Below w.heap.size w (w.alloc (.cells #[.int .i64 0, .int .i64 0] 38)) := al (Below.refl _ _) _
  have hR := heap_alloc_new w (.cells #[.int .i64 0, .int .i64 0] 38)
  have HB := hide hB
  have HR := hide hR
  clear hB hR
  go_enter Tryz.func58, Tryz.ntmps58
  go_wp2_with (first
    | (go_at_call 67; generalize w.alloc (.cells #[.int .i64 0, .int .i64 0] 38) = W at *; refine (hcut _).mono ?_; rintro e w1 ⟨rfl, x1⟩; have X1 := hide (bt HB.out x1 (Nat.le_refl _)); have B1 := hide (blk x1 HR.out); clear x1 hcut)
    | (go_at_call 68; refine (hpar _).mono ?_; rintro e w2 ⟨rfl, x2⟩; have X2 := hide (bt X1.out x2 (Nat.le_refl _)); have B2 := hide (blk x2 B1.out); clear x2 hpar)
    | (go_at_call 69; refine (hnum _).mono ?_; rintro e w9 ⟨rfl, hw9⟩; subst hw9; have B3 := hide (blk (al (Below.refl _ w9) (.cells #[.int .i64 n, .int .i64 k] 38)) B2.out); have X3 := hide (al X2.out (.cells #[.int .i64 n, .int .i64 k] 38)); have P3 := hide (heap_alloc_new w9 (.cells #[.int .i64 n, .int .i64 k] 38)); obtain ⟨c0, c1, f0, f1⟩ := two_get B3.out; obtain ⟨p0, p1, _, _⟩ := two_get P3.out; clear hnum)
    | (go_at_call 70; generalize w9.alloc (.cells #[.int .i64 n, .int .i64 k] 38) = W3 at *; refine (hrt _).mono ?_; rintro e w4 ⟨rfl, x4⟩; have X4 := hide (bt X3.out x4 (Nat.le_refl _)); have B4 := hide (blk x4 B3.out); have P4 := hide (blk x4 P3.out); clear c0 c1 f0 f1 p0 p1; obtain ⟨c0, c1, f0, f1⟩ := two_get B4.out; obtain ⟨p0, p1, _, _⟩ := two_get P4.out; clear x4 hrt))
  have b9 := two_set B4.out (.int .i64 0) (.int .i64 0)
  have k9 : Below w.heap.size w ((w4.setCell ⟨w.heap.size, 0, none⟩ (.int .i64 0)).setCell ⟨w.heap.size, 1, none⟩ (.int .i64 0)) := (X4.out.setCell (Nat.le_refl _) _).setCell (Nat.le_refl _) _
  generalize (w4.setCell ⟨w.heap.size, 0, none⟩ (.int .i64 0)).setCell ⟨w.heap.size, 1, none⟩ (.int .i64 0) = W9 at *
  obtain ⟨r0, r1, _, _⟩ := two_get b9
  refine bodyPost_ret (by simp [results, Tryz.results58, go_sem, r0, r1]; try rfl) rfl ?_
  exact ⟨rfl, k9⟩

theorem refParsePrefix_any (l : List UInt8) (hl : l.length ≤ 140737488351232) (w : World) : Calls Tryz.prog 58 #[.string ⟨l.toArray⟩] w fun e w' => e = .returned (.tuple #[.agg #[.int .i64 (pfxA l), .int .i64 (pfxB l)], .int .i64 (pfxE l)]) ∧ Below w.heap.size w w' := by
  rcases cut_cases 47 l with ec | ⟨p, r, ec⟩
  · have hcut := fun w => c47n ec hl w
    have hpar := fun w => refParse_any l hl w
    cases ea : addrL l with
    | none =>
      have e0 : pfxL l = none := by simp [pfxL, ec, ea]
      obtain ⟨e1, e2, e3⟩ := pfx_no e0
      rw [e1, e2, e3]
      rw [(par_no ea).1, (par_no ea).2] at hpar
      exact rpp1 l w hcut hpar
    | some n =>
      have hn := addrL_some ea
      have e0 : pfxL l = some (n, 32) := by simp [pfxL, ec, ea]
      obtain ⟨e1, e2, e3⟩ := pfx_yes e0
      rw [e1, e2, e3]
      rw [(par_yes ea).1, (par_yes ea).2] at hpar
      refine rpp2 l n w hcut hpar (fun w => ?_)
      have := refRight_any (n : Int) (32 : Nat) w
      rw [decide_eq_true ((Pfx_iff n 32 hn (by decide)).2 (by simp [Nat.mod_one]))] at this
      exact this
  · have hcut := fun w => c47s ec hl w
    have hcl := cut_len ec
    have hpar := fun w => refParse_any p (by omega) w
    cases ea : addrL p with
    | none =>
      have e0 : pfxL l = none := by simp [pfxL, ec, ea]
      obtain ⟨e1, e2, e3⟩ := pfx_no e0
      rw [e1, e2, e3]
      rw [(par_no ea).1, (par_no ea).2] at hpar
      exact rpp3 l p r w hcut hpar (fun w => (refNumber_any r 32 (by decide) (by omega) w).mono fun e w' ⟨⟨x, h1, _⟩, h2⟩ => ⟨⟨x, _, h1⟩, h2⟩)
    | some n =>
      have hn := addrL_some ea
      rw [(par_yes ea).1, (par_yes ea).2] at hpar
      rcases rn_cases r 32 with er | ⟨k, er⟩
      · have e0 : pfxL l = none := by simp [pfxL, ec, ea, er]
        obtain ⟨e1, e2, e3⟩ := pfx_no e0
        rw [e1, e2, e3]
        exact rpp4 l p r n w hcut hpar (fun w => n32_no (by omega) er w)
      · have hk := rn_le er
        have hrt := fun w => refRight_any (n : Int) (k : Int) w
        by_cases hm : n % 2 ^ (32 - k) = 0
        · have e0 : pfxL l = some (n, k) := by simp [pfxL, ec, ea, er, hm]
          obtain ⟨e1, e2, e3⟩ := pfx_yes e0
          rw [e1, e2, e3]
          rw [decide_eq_true ((Pfx_iff n k hn hk).2 hm)] at hrt
          exact rpp5 l p r n k w hcut hpar (fun w => n32_yes (by omega) er w) hrt
        · have e0 : pfxL l = none := by simp [pfxL, ec, ea, er, hm]
          obtain ⟨e1, e2, e3⟩ := pfx_no e0
          rw [e1, e2, e3]
          rw [decide_eq_false (fun h => hm ((Pfx_iff n k hn hk).1 h))] at hrt
          exact rpp6 l p r n k w hcut hpar (fun w => n32_yes (by omega) er w) hrt
end Go.Proofs.YtkpdbbbeagnjpaaGreatDoor
