/-
  awake: true, whatever the memory. No condition.
-/
import Derived.Test.YtnfdjbaafiifnaaP18
import Derived.Test.YtnfdjbaafiifnaaP19
namespace Go.Proofs.Ytnfdjbaafiifnaa
open Go.RowKit Go.Lib

theorem rwCells_length (R : List Rw) : (rwCells R).length = R.length * 3 := by
  induction R with
  | nil => rfl
  | cons r R ih =>
    have : rwCells (r :: R) = [.int .i64 (r.1.1 : Nat), .int .i64 (r.1.2 : Nat), .int .i64 r.2] ++ rwCells R := by simp [rwCells]
    rw [this, List.length_append, ih, List.length_cons]
    simp only [List.length_cons, List.length_nil]
    omega
theorem rwCells_get (R : List Rw) (i : Nat) (h : i < R.length) : (rwCells R)[i * 3]? = some (.int .i64 (R[i].1.1 : Nat)) ∧ (rwCells R)[i * 3 + 1]? = some (.int .i64 (R[i].1.2 : Nat)) ∧ (rwCells R)[i * 3 + 2]? = some (.int .i64 R[i].2) := by
  induction R generalizing i with
  | nil => simp at h
  | cons r R ih =>
    have : rwCells (r :: R) = .int .i64 (r.1.1 : Nat) :: .int .i64 (r.1.2 : Nat) :: .int .i64 r.2 :: rwCells R := by simp [rwCells]
    rw [this]
    cases i with
    | zero => simp
    | succ i =>
      have := ih i (by simpa using h)
      rw [show (i + 1) * 3 = i * 3 + 3 by omega]
      simpa using this
theorem OwnR.at' {w : World} {base : Nat} {v : Value} {R : List Rw} (h : OwnR w base v R) : ∃ ao cap, v = .slice ao (zr R).length cap ∧ (zr R).length ≤ cap ∧ RwAt w ao (zr R) := by
  rw [zr_length]
  rcases h.2 with ⟨rfl, hn⟩ | ⟨g, cap, cur, rfl, hb, hg, hnc, _⟩
  · refine ⟨none, 0, by rw [hn], by omega, .inl ?_⟩
    rw [List.eq_nil_of_length_eq_zero hn]; rfl
  · refine ⟨_, cap, rfl, hnc, .inr ⟨g, 0, rfl, lt_of_block hg, fun i hi => ?_⟩⟩
    rw [zr_length] at hi
    obtain ⟨h1, h2, h3⟩ := rwCells_get R i hi
    have hc : ∀ j, j < R.length * 3 → w.cell? ⟨g, j, none⟩ = (rwCells R)[j]? := fun j hj => World.ownsRow.cellAt h j (by omega)
    have e : (zr R).getD i ((0, 0), 0) = (((R[i].1.1 : Int), (R[i].1.2 : Int)), R[i].2) := by simp [zr, List.getD_eq_getElem?_getD, hi]
    rw [e, Nat.zero_add]
    exact ⟨(hc _ (by omega)).trans h1, (hc _ (by omega)).trans h2, (hc _ (by omega)).trans h3⟩
theorem OwnR.cells {w : World} {base : Nat} {v : Value} {R : List Rw} (h : OwnR w base v R) (h0 : 0 < R.length) : ∃ g cap, v = .slice (some ⟨g, 0, none⟩) R.length cap ∧ R.length ≤ cap ∧ base ≤ g ∧ g < w.heap.size ∧ ∀ i (hi : i < R.length), w.cell? ⟨g, i * 3, none⟩ = some (.int .i64 (R[i].1.1 : Nat)) ∧ w.cell? ⟨g, i * 3 + 1, none⟩ = some (.int .i64 (R[i].1.2 : Nat)) ∧ w.cell? ⟨g, i * 3 + 2, none⟩ = some (.int .i64 R[i].2) := by
  rcases h.2 with ⟨rfl, hn⟩ | ⟨g, cap, cur, rfl, hb, hg, hnc, _⟩
  · omega
  · refine ⟨g, cap, rfl, hnc, hb, lt_of_block hg, fun i hi => ?_⟩
    obtain ⟨h1, h2, h3⟩ := rwCells_get R i hi
    have hc : ∀ j, j < R.length * 3 → w.cell? ⟨g, j, none⟩ = (rwCells R)[j]? := fun j hj => World.ownsRow.cellAt h j (by omega)
    exact ⟨(hc _ (by omega)).trans h1, (hc _ (by omega)).trans h2, (hc _ (by omega)).trans h3⟩
theorem OwnR.cellsG {w : World} {base g n cap : Nat} {R : List Rw} (h : OwnR w base (.slice (some ⟨g, 0, none⟩) n cap) R) (i : Nat) (hi : i < R.length) : w.cell? ⟨g, i * 3, none⟩ = some (.int .i64 (R[i].1.1 : Nat)) ∧ w.cell? ⟨g, i * 3 + 1, none⟩ = some (.int .i64 (R[i].1.2 : Nat)) ∧ w.cell? ⟨g, i * 3 + 2, none⟩ = some (.int .i64 R[i].2) := by
  obtain ⟨g', cap', e, _, _, _, hc⟩ := h.cells (by omega)
  injection e with e1 _ _
  injection e1 with e1
  injection e1 with e1
  subst e1
  exact hc i hi
theorem OwnR.rz {w : World} {base g n cap : Nat} {R : List Rw} (h : OwnR w base (.slice (some ⟨g, 0, none⟩) n cap) R) : RwAt w (some ⟨g, 0, none⟩) (zr R) := by
  obtain ⟨ao, c, e, _, h1⟩ := h.at'
  injection e with e1 _ _
  rw [e1]
  exact h1
theorem OwnR.below {w w' : World} {base : Nat} {v : Value} {R : List Rw} (h : OwnR w base v R) (hb : Below w.heap.size w w') : OwnR w' base v R := own_below h hb
theorem OwnR.kept73 {w w' : World} {base b : Nat} {v : Value} {R : List Rw} {t : Tr} (h : OwnR w base v R) (ht : TrieAt w t (.pointer (some ⟨b, 0, none⟩))) (hk : Kept (fun x => x = b) w w') : OwnR w' base v R := by
  refine own_kept h hk fun k h3 h4 => ?_
  subst h4
  obtain ⟨cs, h5⟩ := own_ty h k h3
  obtain ⟨b', r, e, h1, _⟩ := ht
  injection e with e; injection e with e; injection e with e; subst e
  rw [h5] at h1
  simp at h1
theorem t1_is : (Tr.leaf 0).put 2147483648 1 5 = .fork (.leaf 0) (.leaf 5) := by simp [Tr.put, Tr.lo, jn]

theorem labs05 : (Tr.fork (.leaf 0) (.leaf 5)).labs Lab := show Lab 0 ∧ Lab 5 by decide
set_option maxRecDepth 100000 in
set_option maxHeartbeats 4000000 in
theorem awake_any (w : World) : Calls Try.prog 8 #[] w fun e w' => e = .returned (.bool true) ∧ Below w.heap.size w w' := by
  have n0 : ∀ w, Calls Try.prog 9 #[.int .i64 0] w fun e w' => (∃ b, e = .returned (.tuple #[.pointer (some ⟨b, 0, none⟩), .int .i64 0]) ∧ TrieAt w' (.leaf 0) (.pointer (some ⟨b, 0, none⟩)) ∧ w.heap.size ≤ b) ∧ Below w.heap.size w w' := fun w => (new_any 0 w).mono fun e w' ⟨h, x⟩ => by
    rcases h with ⟨_, v, h1, h2, b, rfl, h3⟩ | ⟨h1, _⟩
    · exact ⟨⟨b, h1, h2, h3⟩, x⟩
    · exact absurd (by decide) h1
  have n1 : ∀ w, Calls Try.prog 9 #[.int .i64 (-1)] w fun e w' => e = .returned (.tuple #[.pointer none, .int .i64 1]) ∧ Below w.heap.size w w' := fun w => (new_any (-1) w).mono fun e w' ⟨h, x⟩ => by
    rcases h with ⟨h1, _⟩ | ⟨_, h1⟩
    · exact absurd h1 (by decide)
    · exact ⟨h1, x⟩
  have p0 : ∀ b w, TrieAt w (.leaf 0) (.pointer (some ⟨b, 0, none⟩)) → Calls Try.prog 18 #[.pointer (some ⟨b, 0, none⟩), .agg #[.int .i64 2147483648, .int .i64 1], .int .i64 5] w fun e w' => e = .returned (.int .i64 0) ∧ TrieAt w' (.fork (.leaf 0) (.leaf 5)) (.pointer (some ⟨b, 0, none⟩)) ∧ Kept (fun x => x = b) w w' := fun b w h => (putT_any 2147483648 1 5 w h).mono fun e w' ⟨h1, _, h3⟩ => by
    obtain ⟨h4, h5⟩ := h1 ⟨by decide, by decide⟩
    exact ⟨h4, by rw [← t1_is]; exact h5, h3⟩
  have m0 : ∀ b w a c, TrieAt w (.fork (.leaf 0) (.leaf 5)) (.pointer (some ⟨b, 0, none⟩)) → ZAt w a [3] → Calls Try.prog 23 #[.pointer (some ⟨b, 0, none⟩), .slice a 1 c] w fun e w' => e = .returned (.int .i64 1) ∧ TrieAt w' (.fork (.leaf 0) (.leaf 5)) (.pointer (some ⟨b, 0, none⟩)) ∧ Kept (fun x => x = b) w w' := fun b w a c h hz => (mapT_any [3] w (by decide) labs05 hz h).mono fun e w' ⟨h1, h3⟩ => by
    rcases h1 with ⟨h1, _⟩ | ⟨_, h1, h2⟩
    · exact absurd h1.2 (show ¬ trOk [3] 5 by decide)
    · exact ⟨h1, h2, h3⟩
  have m1 : ∀ b w a c, TrieAt w (.fork (.leaf 0) (.leaf 5)) (.pointer (some ⟨b, 0, none⟩)) → ZAt w a [1, 0, 0, 0, 0, 1] → Calls Try.prog 23 #[.pointer (some ⟨b, 0, none⟩), .slice a 6 c] w fun e w' => e = .returned (.int .i64 0) ∧ TrieAt w' (.leaf 1) (.pointer (some ⟨b, 0, none⟩)) ∧ Kept (fun x => x = b) w w' := fun b w a c h hz => (mapT_any [1, 0, 0, 0, 0, 1] w (by decide) labs05 hz h).mono fun e w' ⟨h1, h3⟩ => by
    rcases h1 with ⟨_, h1, h2⟩ | ⟨h1, _⟩
    · exact ⟨h1, by simpa [Tr.map, jn, tr] using h2, h3⟩
    · exact absurd (show trOk [1, 0, 0, 0, 0, 1] 0 ∧ trOk [1, 0, 0, 0, 0, 1] 5 by decide) h1
  have f0 : ∀ b w, TrieAt w (.fork (.leaf 0) (.leaf 5)) (.pointer (some ⟨b, 0, none⟩)) → Calls Try.prog 20 #[.pointer (some ⟨b, 0, none⟩), .int .i64 2147483648] w fun e w' => e = .returned (.tuple #[.int .i64 5, .int .i64 0]) ∧ Below w.heap.size w w' := fun b w h => (findT_any 2147483648 w h).mono fun e w' ⟨h1, _, h3⟩ => ⟨by rw [h1 ⟨by decide, by decide⟩]; rfl, h3⟩
  have k0 : ∀ a c w, RwAt w a (zr ((Tr.fork (.leaf 0) (.leaf 5)).rows 0 0)) → 2 ≤ c → Calls Try.prog 22 #[.slice a 2 c] w fun e w' => (∃ b, e = .returned (.tuple #[.pointer (some ⟨b, 0, none⟩), .int .i64 0])) ∧ Below w.heap.size w w' := fun a c w h hc => (make_any _ a c w (by simp [zr, Tr.rows]) (by simpa [zr, Tr.rows] using hc) h).mono fun e w' ⟨h1, h2⟩ => by
    rcases h1 with ⟨t, b, _, h3, _⟩ | ⟨h3, _⟩
    · exact ⟨⟨b, h3⟩, h2⟩
    · have := rdT_rows (Tr.fork (.leaf 0) (.leaf 5)) 0 0 32 [] ⟨trivial, trivial, fun l ⟨h4, h5⟩ => by cases h4; cases h5⟩ labs05 (by decide)
      rw [List.append_nil] at this
      exact absurd this (h3 _)
  have k1 : ∀ a c w, Calls Try.prog 22 #[.slice a 0 c] w fun e w' => e = .returned (.tuple #[.pointer none, .int .i64 40]) ∧ Below w.heap.size w w' := fun a c w => (make_any [] a c w (by decide) (Nat.zero_le _) (.inl rfl)).mono fun e w' ⟨h1, h2⟩ => by
    rcases h1 with ⟨t, b, h3, _⟩ | ⟨_, h3⟩
    · simp [rdT] at h3
    · exact ⟨h3, h2⟩
  have N0 := hide n0
  have N1 := hide n1
  have P0 := hide p0
  have M0 := hide m0
  have M1 := hide m1
  have F0 := hide f0
  have K0 := hide k0
  have K1 := hide k1
  clear n0 n1 p0 m0 m1 f0 k0 k1
  go_enter Try.func8, Try.ntmps8
  go_wp2_with (fail)
  refine (N0.out _).mono ?_
  rintro e w1 ⟨⟨b, rfl, t1, hb⟩, x1⟩
  have T1 := hide t1
  have X1 := hide x1
  clear t1 x1 N0
  go_wp2_with (fail)
  refine (N1.out _).mono ?_
  rintro e w2 ⟨rfl, x2⟩
  have T2 := hide (T1.out.below x2)
  have X2 := hide (bt X1.out x2 (Nat.le_refl _))
  clear x2 N1
  go_wp2_with (fail)
  refine (P0.out b _ T2.out).mono ?_
  rintro e w3 ⟨rfl, t3, kk3⟩
  have T3 := hide t3
  have X3 := hide (X2.out.trans (kk3.below X2.out.size (fun i hi => by rw [hi]; exact hb)))
  clear t3 kk3 P0
  go_wp2_with (fail)
  refine (rows_any w3 (by decide) T3.out).mono ?_
  rintro e w4 ⟨⟨v4, rfl, r4⟩, x4⟩
  have R4 := hide r4
  have T4 := hide (T3.out.below x4)
  have X4 := hide (bt X3.out x4 (Nat.le_refl _))
  obtain ⟨g4, c4, hv4, hc4, _⟩ := r4.cells (by decide)
  have hv4 : v4 = .slice (some ⟨g4, 0, none⟩) 2 c4 := hv4
  have hc4 : 2 ≤ c4 := hc4
  subst hv4
  clear r4 x4
  go_wp2_with (fail)
  refine (F0.out b _ T4.out).mono ?_
  rintro e w5 ⟨rfl, x5⟩
  have R5 := hide (R4.out.below x5)
  have T5 := hide (T4.out.below x5)
  have X5 := hide (bt X4.out x5 (Nat.le_refl _))
  clear x5 F0
  go_wp2_with (fail)
  refine (M0.out b _ _ _ (T5.out.below (al (Below.refl _ w5) (.cells #[.int .i64 3] 3))) (.inr ⟨_, 0, rfl, by simp, fun i hi => by match i, hi with | 0, _ => simp⟩)).mono ?_
  rintro e w6 ⟨rfl, t6, kk6⟩
  have T6 := hide t6
  have R6 := hide ((R5.out.below (al (Below.refl _ w5) (.cells #[.int .i64 3] 3))).kept73 (T5.out.below (al (Below.refl _ w5) _)) kk6)
  have X6 := hide ((al X5.out (.cells #[.int .i64 3] 3)).trans (kk6.below (Nat.le_trans X5.out.size (al (Below.refl _ w5) _).size) (fun i hi => by rw [hi]; exact hb)))
  clear t6 kk6 M0
  go_wp2_with (fail)
  refine (M1.out b _ _ _ (T6.out.below (al (Below.refl _ w6) (.cells #[.int .i64 1, .int .i64 0, .int .i64 0, .int .i64 0, .int .i64 0, .int .i64 1] 3))) (.inr ⟨_, 0, rfl, by simp, fun i hi => by match i, hi with | 0, _ => simp | 1, _ => simp | 2, _ => simp | 3, _ => simp | 4, _ => simp | 5, _ => simp⟩)).mono ?_
  rintro e w7 ⟨rfl, t7, kk7⟩
  have T7 := hide t7
  have R7 := hide ((R6.out.below (al (Below.refl _ w6) (.cells #[.int .i64 1, .int .i64 0, .int .i64 0, .int .i64 0, .int .i64 0, .int .i64 1] 3))).kept73 (T6.out.below (al (Below.refl _ w6) _)) kk7)
  have X7 := hide ((al X6.out (.cells #[.int .i64 1, .int .i64 0, .int .i64 0, .int .i64 0, .int .i64 0, .int .i64 1] 3)).trans (kk7.below (Nat.le_trans X6.out.size (al (Below.refl _ w6) _).size) (fun i hi => by rw [hi]; exact hb)))
  clear t7 kk7 M1
  go_wp2_with (fail)
  refine (rows_any w7 (by decide) T7.out).mono ?_
  rintro e w8 ⟨⟨v8, rfl, r8⟩, x8⟩
  have R8 := hide (R7.out.below x8)
  have Q8 := hide r8
  have X8 := hide (bt X7.out x8 (Nat.le_refl _))
  obtain ⟨g8, c8, hv8, hc8, _⟩ := r8.cells (by decide)
  have hv8 : v8 = .slice (some ⟨g8, 0, none⟩) 1 c8 := hv8
  have hc8 : 1 ≤ c8 := hc8
  subst hv8
  clear r8 x8
  go_wp2_with (fail)
  refine (K0.out _ _ _ R8.out.rz hc4).mono ?_
  rintro e w9 ⟨⟨b9, rfl⟩, x9⟩
  have R9 := hide (R8.out.below x9)
  have Q9 := hide (Q8.out.below x9)
  have X9 := hide (bt X8.out x9 (Nat.le_refl _))
  clear x9 K0
  go_wp2_with (fail)
  refine (K1.out _ _ _).mono ?_
  rintro e w10 ⟨rfl, x10⟩
  have R10 := hide (R9.out.below x10)
  have Q10 := hide (Q9.out.below x10)
  have X10 := hide (bt X9.out x10 (Nat.le_refl _))
  clear x10 K1
  obtain ⟨q1, q2, q3⟩ := R10.out.cellsG 1 (by decide)
  obtain ⟨q4, q5, q6⟩ := Q10.out.cellsG 0 (by decide)
  have q1 : w10.cell? ⟨g4, 3, none⟩ = some (.int .i64 2147483648) := q1
  have q2 : w10.cell? ⟨g4, 4, none⟩ = some (.int .i64 1) := q2
  have q3 : w10.cell? ⟨g4, 5, none⟩ = some (.int .i64 5) := q3
  have q4 : w10.cell? ⟨g8, 0, none⟩ = some (.int .i64 0) := q4
  have q5 : w10.cell? ⟨g8, 1, none⟩ = some (.int .i64 0) := q5
  have q6 : w10.cell? ⟨g8, 2, none⟩ = some (.int .i64 1) := q6
  go_wp2
  trace_state
  go_ret
  exact ⟨rfl, X10.out⟩
end Go.Proofs.Ytnfdjbaafiifnaa
