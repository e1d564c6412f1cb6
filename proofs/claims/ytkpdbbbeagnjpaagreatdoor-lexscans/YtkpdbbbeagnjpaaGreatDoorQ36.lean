/-
  The document's Parse by its contract. Condition: a text is no longer than a process can hold.
-/
import Derived.Test.YtkpdbbbeagnjpaaGreatDoorQ35
import Derived.Test.YtkpdbbbeagnjpaaGreatDoorQ20
namespace Go.Proofs.YtkpdbbbeagnjpaaGreatDoor
open Go.RowKit Go.Lib

theorem par_no {l : List UInt8} (h : addrL l = none) : parN l = 0 ∧ parE l = 30 := by unfold parN parE; rw [h]; exact ⟨rfl, rfl⟩
theorem par_yes {l : List UInt8} {m : Nat} (h : addrL l = some m) : parN l = m ∧ parE l = 0 := by unfold parN parE; rw [h]; exact ⟨rfl, rfl⟩
theorem rn_cases (l : List UInt8) (most : Nat) : rn l most = none ∨ ∃ m, rn l most = some m := by cases rn l most with | none => exact .inl rfl | some m => exact .inr ⟨m, rfl⟩
theorem cut_cases (c : UInt8) (l : List UInt8) : cutL c l = none ∨ ∃ p r, cutL c l = some (p, r) := by cases cutL c l with | none => exact .inl rfl | some m => exact .inr ⟨m.1, m.2, rfl⟩
theorem num_no {l : List UInt8} (hl : l.length ≤ 140737488351232) (h : rn l 255 = none) (w : World) : Calls Tryz.prog 69 #[.string ⟨l.toArray⟩, .int .i64 255] w fun e w' => (∃ x : Int, e = .returned (.tuple #[.int .i64 x, .bool false])) ∧ w' = w :=
  (refNumber_any l 255 (by decide) hl w).mono fun e w' ⟨⟨x, h1, _⟩, h2⟩ => ⟨⟨x, by rw [h1, h]; rfl⟩, h2⟩
theorem num_yes {l : List UInt8} {m : Nat} (hl : l.length ≤ 140737488351232) (h : rn l 255 = some m) (w : World) : Calls Tryz.prog 69 #[.string ⟨l.toArray⟩, .int .i64 255] w fun e w' => e = .returned (.tuple #[.int .i64 m, .bool true]) ∧ w' = w :=
  (refNumber_any l 255 (by decide) hl w).mono fun e w' ⟨⟨x, h1, h3⟩, h2⟩ => ⟨by rw [h1, h, h3 m h]; rfl, h2⟩
theorem c46n {l : List UInt8} (h : cutL 46 l = none) (hl : l.length ≤ 140737488351232) (w : World) : Calls Tryz.prog 67 #[.string ⟨l.toArray⟩, .int .u8 46] w fun e w' => e = .returned (.tuple #[.string ⟨l.toArray⟩, .string ⟨#[]⟩, .bool false]) ∧ Below w.heap.size w w' := refCut_none h hl w
theorem c46s {l p r : List UInt8} (h : cutL 46 l = some (p, r)) (hl : l.length ≤ 140737488351232) (w : World) : Calls Tryz.prog 67 #[.string ⟨l.toArray⟩, .int .u8 46] w fun e w' => e = .returned (.tuple #[.string ⟨p.toArray⟩, .string ⟨r.toArray⟩, .bool true]) ∧ Below w.heap.size w w' := refCut_some h hl w

set_option maxRecDepth 100000 in
set_option maxHeartbeats 1000000 in
theorem refParse_any (l : List UInt8) (hl : l.length ≤ 140737488351232) (w : World) : Calls Tryz.prog 68 #[.string ⟨l.toArray⟩] w fun e w' => e = .returned (.tuple #[.int .i64 (parN l), .int .i64 (parE l)]) ∧ Below w.heap.size w w' := by
  have no : addrL l = none → ∀ w', Below w.heap.size w w' → (Ending.returned (.tuple #[.int .i64 0, .int .i64 30]) = .returned (.tuple #[.int .i64 (parN l), .int .i64 (parE l)]) ∧ Below w.heap.size w w') := fun h w' x => ⟨by rw [(par_no h).1, (par_no h).2], x⟩
  have NO := hide no
  have yes : ∀ m, addrL l = some m → ∀ w', Below w.heap.size w w' → (Ending.returned (.tuple #[.int .i64 (m : Nat), .int .i64 0]) = .returned (.tuple #[.int .i64 (parN l), .int .i64 (parE l)]) ∧ Below w.heap.size w w') := fun m h w' x => ⟨by rw [(par_yes h).1, (par_yes h).2], x⟩
  have YES := hide yes
  clear no yes
  have B0 := hide (Below.refl w.heap.size w)
  rcases cut_cases 46 l with h1 | ⟨p1, l1, h1⟩
  · have HN : Hid (addrL l = none) := by unfold Hid addrL; rw [h1]; rfl
    have hc := fun w => c46n h1 hl w
    clear h1
    go_enter Tryz.func68, Tryz.ntmps68
    go_wp2
    refine wp_loop_rounds 1 ?_
    rw [rounds_succ]
    go_wp2_with (go_at_call 67; refine (hc _).mono ?_; rintro e w1 ⟨rfl, x1⟩; have X1 := hide (bt B0.out x1 (Nat.le_refl _)); clear x1)
    go_ret2
    exact NO.out HN.out _ X1.out
  have k1 := fun w => c46s h1 hl w
  have z1 := cut_len h1
  have hl1 : l1.length ≤ 140737488351232 := by omega
  have hp1 : p1.length ≤ 140737488351232 := by omega
  rcases rn_cases p1 255 with n1 | ⟨m1, n1⟩
  · have HN : Hid (addrL l = none) := by
      unfold Hid addrL; rw [h1]
      simp only [Option.bind_some, n1, Option.bind_none]
      cases cutL 46 l1 with
      | none => rfl
      | some q =>
        show ((cutL 46 q.2).bind fun _ => none) = none
        cases cutL 46 q.2 <;> rfl
    have d1 := fun w => num_no hp1 n1 w
    clear h1 n1 z1
    go_enter Tryz.func68, Tryz.ntmps68
    go_wp2
    refine wp_loop_rounds 1 ?_
    rw [rounds_succ]
    go_wp2_with (first
      | (go_at_call 67; refine (k1 _).mono ?_; rintro e w1 ⟨rfl, x1⟩; have X1 := hide (bt B0.out x1 (Nat.le_refl _)); clear x1)
      | (go_at_call 69; refine (d1 _).mono ?_; rintro e w2 ⟨⟨x, rfl⟩, hw2⟩; subst hw2))
    go_ret2
    exact NO.out HN.out _ X1.out
  have d1 := fun w => num_yes hp1 n1 w
  have b1 := rn_le n1
  rcases cut_cases 46 l1 with h2 | ⟨p2, l2, h2⟩
  · have HN : Hid (addrL l = none) := by unfold Hid addrL; rw [h1]; simp only [Option.bind_some, h2, Option.bind_none]
    have k2 := fun w => c46n h2 hl1 w
    clear h1 h2 n1 z1
    go_enter Tryz.func68, Tryz.ntmps68
    go_wp2
    refine wp_loop_rounds 2 ?_
    rw [rounds_succ]
    go_wp2_with (first
      | (go_at_call 67; refine (k1 w).mono ?_; rintro e w1 ⟨rfl, x1⟩; have X1 := hide (bt B0.out x1 (Nat.le_refl _)); clear x1)
      | (go_at_call 69; refine (d1 _).mono ?_; rintro e w2 ⟨rfl, hw2⟩; subst hw2))
    rw [rounds_succ]
    go_wp2_with (first
      | (go_at_call 67; refine (k2 _).mono ?_; rintro e w3 ⟨rfl, x3⟩; have X3 := hide (bt X1.out x3 (Nat.le_refl _)); clear x3))
    go_ret2
    exact NO.out HN.out _ X3.out
  have k2 := fun w => c46s h2 hl1 w
  have z2 := cut_len h2
  have hl2 : l2.length ≤ 140737488351232 := by omega
  have hp2 : p2.length ≤ 140737488351232 := by omega
  rcases rn_cases p2 255 with n2 | ⟨m2, n2⟩
  · have HN : Hid (addrL l = none) := by
      unfold Hid addrL; rw [h1]
      simp only [Option.bind_some, h2, n1, n2, Option.bind_none]
      cases cutL 46 l2 <;> rfl
    have d2 := fun w => num_no hp2 n2 w
    clear h1 h2 n1 n2 z1 z2
    go_enter Tryz.func68, Tryz.ntmps68
    go_wp2
    refine wp_loop_rounds 2 ?_
    rw [rounds_succ]
    go_wp2_with (first
      | (go_at_call 67; refine (k1 w).mono ?_; rintro e w1 ⟨rfl, x1⟩; have X1 := hide (bt B0.out x1 (Nat.le_refl _)); clear x1)
      | (go_at_call 69; refine (d1 _).mono ?_; rintro e w2 ⟨rfl, hw2⟩; subst hw2))
    rw [rounds_succ]
    go_wp2_with (first
      | (go_at_call 67; refine (k2 _).mono ?_; rintro e w3 ⟨rfl, x3⟩; have X3 := hide (bt X1.out x3 (Nat.le_refl _)); clear x3)
      | (go_at_call 69; refine (d2 _).mono ?_; rintro e w4 ⟨⟨x, rfl⟩, hw4⟩; subst hw4))
    go_ret2
    exact NO.out HN.out _ X3.out
  have d2 := fun w => num_yes hp2 n2 w
  have b2 := rn_le n2
  rcases cut_cases 46 l2 with h3 | ⟨p3, l3, h3⟩
  · have HN : Hid (addrL l = none) := by unfold Hid addrL; rw [h1]; simp only [Option.bind_some, h2, h3, Option.bind_none]
    have k3 := fun w => c46n h3 hl2 w
    clear h1 h2 h3 n1 n2 z1 z2
    go_enter Tryz.func68, Tryz.ntmps68
    go_wp2
    refine wp_loop_rounds 3 ?_
    rw [rounds_succ]
    go_wp2_with (first
      | (go_at_call 67; refine (k1 w).mono ?_; rintro e w1 ⟨rfl, x1⟩; have X1 := hide (bt B0.out x1 (Nat.le_refl _)); clear x1)
      | (go_at_call 69; refine (d1 _).mono ?_; rintro e w2 ⟨rfl, hw2⟩; subst hw2))
    rw [rounds_succ]
    go_wp2_with (first
      | (go_at_call 67; refine (k2 _).mono ?_; rintro e w3 ⟨rfl, x3⟩; have X3 := hide (bt X1.out x3 (Nat.le_refl _)); clear x3)
      | (go_at_call 69; refine (d2 _).mono ?_; rintro e w4 ⟨rfl, hw4⟩; subst hw4))
    rw [rounds_succ]
    go_wp2_with (first
      | (go_at_call 67; refine (k3 _).mono ?_; rintro e w5 ⟨rfl, x5⟩; have X5 := hide (bt X3.out x5 (Nat.le_refl _)); clear x5))
    go_ret2
    exact NO.out HN.out _ X5.out
  have k3 := fun w => c46s h3 hl2 w
  have z3 := cut_len h3
  have hl3 : l3.length ≤ 140737488351232 := by omega
  have hp3 : p3.length ≤ 140737488351232 := by omega
  rcases rn_cases p3 255 with n3 | ⟨m3, n3⟩
  · have HN : Hid (addrL l = none) := by
      unfold Hid addrL; rw [h1]
      simp only [Option.bind_some, h2, h3, n1, n2, n3, Option.bind_none]
    have d3 := fun w => num_no hp3 n3 w
    clear h1 h2 h3 n1 n2 n3 z1 z2 z3
    go_enter Tryz.func68, Tryz.ntmps68
    go_wp2
    refine wp_loop_rounds 3 ?_
    rw [rounds_succ]
    go_wp2_with (first
      | (go_at_call 67; refine (k1 w).mono ?_; rintro e w1 ⟨rfl, x1⟩; have X1 := hide (bt B0.out x1 (Nat.le_refl _)); clear x1)
      | (go_at_call 69; refine (d1 _).mono ?_; rintro e w2 ⟨rfl, hw2⟩; subst hw2))
    rw [rounds_succ]
    go_wp2_with (first
      | (go_at_call 67; refine (k2 _).mono ?_; rintro e w3 ⟨rfl, x3⟩; have X3 := hide (bt X1.out x3 (Nat.le_refl _)); clear x3)
      | (go_at_call 69; refine (d2 _).mono ?_; rintro e w4 ⟨rfl, hw4⟩; subst hw4))
    rw [rounds_succ]
    go_wp2_with (first
      | (go_at_call 67; refine (k3 _).mono ?_; rintro e w5 ⟨rfl, x5⟩; have X5 := hide (bt X3.out x5 (Nat.le_refl _)); clear x5)
      | (go_at_call 69; refine (d3 _).mono ?_; rintro e w6 ⟨⟨x, rfl⟩, hw6⟩; subst hw6))
    go_ret2
    exact NO.out HN.out _ X5.out
  have d3 := fun w => num_yes hp3 n3 w
  have b3 := rn_le n3
  have h4 := addrL_three h1 h2 h3
  rw [n1, n2, n3] at h4
  simp only [Option.bind_some] at h4
  clear h1 h2 h3 n1 n2 n3 z1 z2 z3
  rcases rn_cases l3 255 with n4 | ⟨m4, n4⟩
  · have HN : Hid (addrL l = none) := by unfold Hid; rw [h4, n4]; rfl
    have d4 := fun w => num_no hl3 n4 w
    clear h4 n4
    go_enter Tryz.func68, Tryz.ntmps68
    go_wp2
    refine wp_loop_rounds 4 ?_
    rw [rounds_succ]
    go_wp2_with (first
      | (go_at_call 67; refine (k1 w).mono ?_; rintro e w1 ⟨rfl, x1⟩; have X1 := hide (bt B0.out x1 (Nat.le_refl _)); clear x1)
      | (go_at_call 69; refine (d1 _).mono ?_; rintro e w2 ⟨rfl, hw2⟩; subst hw2))
    rw [rounds_succ]
    go_wp2_with (first
      | (go_at_call 67; refine (k2 _).mono ?_; rintro e w3 ⟨rfl, x3⟩; have X3 := hide (bt X1.out x3 (Nat.le_refl _)); clear x3)
      | (go_at_call 69; refine (d2 _).mono ?_; rintro e w4 ⟨rfl, hw4⟩; subst hw4))
    rw [rounds_succ]
    go_wp2_with (first
      | (go_at_call 67; refine (k3 _).mono ?_; rintro e w5 ⟨rfl, x5⟩; have X5 := hide (bt X3.out x5 (Nat.le_refl _)); clear x5)
      | (go_at_call 69; refine (d3 _).mono ?_; rintro e w6 ⟨rfl, hw6⟩; subst hw6))
    rw [rounds_succ]
    go_wp2_with (first
      | (go_at_call 69; refine (d4 _).mono ?_; rintro e w8 ⟨⟨x, rfl⟩, hw8⟩; subst hw8))
    go_ret2
    exact NO.out HN.out _ X5.out
  · have HN : Hid (addrL l = some (W4 m1 m2 m3 m4)) := by unfold Hid; rw [h4, n4]; rfl
    have d4 := fun w => num_yes hl3 n4 w
    have b4 := rn_le n4
    clear h4 n4
    go_enter Tryz.func68, Tryz.ntmps68
    go_wp2
    refine wp_loop_rounds 5 ?_
    rw [rounds_succ]
    go_wp2_with (first
      | (go_at_call 67; refine (k1 w).mono ?_; rintro e w1 ⟨rfl, x1⟩; have X1 := hide (bt B0.out x1 (Nat.le_refl _)); clear x1)
      | (go_at_call 69; refine (d1 _).mono ?_; rintro e w2 ⟨rfl, hw2⟩; subst hw2))
    rw [rounds_succ]
    go_wp2_with (first
      | (go_at_call 67; refine (k2 _).mono ?_; rintro e w3 ⟨rfl, x3⟩; have X3 := hide (bt X1.out x3 (Nat.le_refl _)); clear x3)
      | (go_at_call 69; refine (d2 _).mono ?_; rintro e w4 ⟨rfl, hw4⟩; subst hw4))
    rw [rounds_succ]
    go_wp2_with (first
      | (go_at_call 67; refine (k3 _).mono ?_; rintro e w5 ⟨rfl, x5⟩; have X5 := hide (bt X3.out x5 (Nat.le_refl _)); clear x5)
      | (go_at_call 69; refine (d3 _).mono ?_; rintro e w6 ⟨rfl, hw6⟩; subst hw6))
    rw [rounds_succ]
    go_wp2_with (first
      | (go_at_call 69; refine (d4 _).mono ?_; rintro e w8 ⟨rfl, hw8⟩; subst hw8))
    rw [rounds_succ]
    go_wp2
    go_ret2
    have := YES.out _ HN.out _ X5.out
    refine ⟨?_, this.2⟩
    rw [← this.1]
    unfold W4
    exact congrArg (fun z => Ending.returned (.tuple #[.int .i64 z, .int .i64 0])) (by omega)
end Go.Proofs.YtkpdbbbeagnjpaaGreatDoor
