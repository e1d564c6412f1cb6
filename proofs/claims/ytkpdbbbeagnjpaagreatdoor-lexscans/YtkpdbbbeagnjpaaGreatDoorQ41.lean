/-
  Scan by its contract, of a source of any length. Condition: the library's ErrRange reads as its text lays it.
-/
import Derived.Test.YtkpdbbbeagnjpaaGreatDoorQ26
import Derived.Test.YtkpdbbbeagnjpaaGreatDoorQ27
import Derived.Test.YtkpdbbbeagnjpaaGreatDoorQ33
namespace Go.Proofs.YtkpdbbbeagnjpaaGreatDoor
open Go.RowKit Go.Lib

set_option maxHeartbeats 4000000 in
set_option maxRecDepth 100000 in
theorem scan_any (s : By) (w : World) (hev : ErrV w.heap.size w) :
    Calls Tryz.prog 8 #[.string ⟨s.toArray⟩] w fun e w' => ScnQ s w.heap.size e w' ∧ Below w.heap.size w w' := by
  by_cases hs : s.length ≤ 8000
  · exact scan_le s w hs hev
  · have hsz := bs_size s
    have hl' : (8000 : Int) < (s.length : Int) := by omega
    have HSC : Hid (scanQ s = .error (84, 8000)) := by unfold Hid scanQ; rw [if_pos (by omega)]
    clear hev hs
    go_enter Tryz.func8, Tryz.ntmps8
    go_wp2
    refine bodyPost_ret (by simp [results, Tryz.results8, go_sem]; rfl) rfl ?_
    refine ⟨?_, Below.refl _ _⟩
    unfold ScnQ
    rw [HSC.out]
end Go.Proofs.YtkpdbbbeagnjpaaGreatDoor
/-
  Where a source is wrong, told of Scan. Pure. No condition.
-/
namespace Go.Proofs.YtkpdbbbeagnjpaaGreatDoor
open Go.RowKit Go.Lib

theorem fall_at (s : By) : ∀ (k i : Nat), i + k = s.length → ∀ x, InF s i x → (∃ y, foldQ s 0 x0 s = (0, y) ∧ InF s s.length y) ∨ ∃ j c y, j < s.length ∧ foldQ s 0 x0 s = (c, y) ∧ Fl s j c y
  | 0, i, hk, x, h => by
    obtain rfl : i = s.length := by omega
    refine .inl ⟨x, ?_, h⟩
    have := h.st
    rwa [List.take_length] at this
  | k + 1, i, hk, x, h => by
    have hi : i < s.length := by omega
    rcases inF_step hi h with ⟨y, hy, hI⟩ | ⟨c, y, hy, hF⟩
    · exact fall_at s k (i + 1) (by omega) y hI
    · exact .inr ⟨i, c, y, hi, fold_fail hi h.st hy hF.c0.1, hF⟩
theorem fall (s : By) : (∃ y, foldQ s 0 x0 s = (0, y) ∧ InF s s.length y) ∨ ∃ j c y, j < s.length ∧ foldQ s 0 x0 s = (c, y) ∧ Fl s j c y := fall_at s s.length 0 (by omega) x0 (InF.start s)
theorem faults {s : By} (hl : s.length ≤ 8000) {c n : Int} (h : scanQ s = .error (c, n)) : ∃ j y, y.fr = n ∧ Fl s j c y ∧ n < s.length ∧ j ≤ s.length := by
  rcases fall s with ⟨y, hy, hI⟩ | ⟨j, c', y, hj, hy, hF⟩
  · rw [scan_foldQ hl hy, if_neg (by show ¬ ((0 : Int) ≠ 0); decide)] at h
    obtain ⟨hst, hf0, hbig, hrun⟩ := hI
    rcases end_cases s y with ⟨h1, h2⟩ | ⟨_, _, h2⟩ | ⟨h1, h2, h3⟩ | ⟨_, h2⟩
    · obtain ⟨g1, g2⟩ := hbig (by omega) (by omega)
      simp only [h2] at h
      rw [if_pos (by decide)] at h
      obtain ⟨rfl, rfl⟩ := Prod.mk.inj (Except.error.inj h)
      exact ⟨s.length, y, rfl, ⟨hf0, by omega, g2, by decide, fun h => absurd rfl h, fun h => absurd rfl h⟩, g1, Nat.le_refl _⟩
    · rw [if_neg (by simp only [h2]; decide)] at h
      cases h
    · obtain ⟨g1, g2⟩ := hbig (by omega) (by omega)
      obtain ⟨c', hc, hcx⟩ := endAny_fail s y s.length h2
      rw [h3, hcx] at h
      simp only at h
      rw [if_pos (by omega)] at h
      obtain ⟨rfl, rfl⟩ := Prod.mk.inj (Except.error.inj h)
      refine ⟨s.length, y, rfl, ⟨hf0, by omega, g2, by omega, fun _ b hb => not_blank (hrun h1 b hb), fun _ s' ht hi' hb => ?_⟩, g1, Nat.le_refl _⟩
      rcases hb with ⟨hb, _⟩ | ⟨hb, _⟩
      · omega
      · refine fold_fail hi' (x := y) ?_ ?_ (by show c' ≠ 0; omega)
        · rw [ht, ← hst]
          exact foldQ_loc _ 0 _ (by simp only [List.length_take]; exact take_mono ht (by omega))
        · rw [hb, stepQ_loc ht]
          rcases step_cases s y s.length (bI 32) with ⟨e1, _⟩ | ⟨e1, _⟩ | ⟨e1, _⟩ | ⟨_, e1, _⟩ | ⟨_, e1, _⟩ | ⟨_, _, _, e1⟩ | ⟨e1, _⟩
          · omega
          · omega
          · omega
          · exact absurd e1 (go_blank _)
          · exact absurd e1 h2
          · rw [e1, hcx]
          · omega
    · rw [if_neg (by simp only [h2]; decide)] at h
      cases h
  · have hc0 := hF.c0.1
    rw [scan_foldQ hl hy, if_pos hc0] at h
    simp only at h
    obtain ⟨rfl, rfl⟩ := Prod.mk.inj (Except.error.inj h)
    exact ⟨j, y, rfl, hF, by have := hF.f1; omega, by omega⟩
/-- What stands ahead of the fault is right. -/
theorem scan_ahead {s : By} (hl : s.length ≤ 8000) {c n : Int} (h : scanQ s = .error (c, n)) : (c ≠ 0 ∧ c ≠ 84) ∧ 0 ≤ n ∧ n < s.length ∧ ∃ L, scanQ (s.take n.toNat) = .ok L := by
  obtain ⟨j, y, rfl, hF, hn, hj⟩ := faults hl h
  refine ⟨hF.c0, hF.f0, hn, ?_⟩
  obtain ⟨x, h1, h2⟩ := hF.good
  have hlt : (s.take y.fr.toNat).length ≤ 8000 := by simp; omega
  have hf : foldQ (s.take y.fr.toNat) 0 x0 (s.take y.fr.toNat) = (0, x) := by
    rw [← h1]
    refine foldQ_loc _ 0 _ ?_
    rw [Nat.zero_add, List.take_length, List.length_take, Nat.min_eq_left (by omega)]
  rw [scan_foldQ hlt hf, if_neg (by show ¬ ((0 : Int) ≠ 0); decide), if_neg (by simp only [h2]; decide)]
  exact ⟨_, rfl⟩
/-- What stands behind the next blank changes nothing. -/
theorem scan_behind {s : By} (hl : s.length ≤ 8000) {c n : Int} (h : scanQ s = .error (c, n)) (hc : c ≠ 83) {m : Nat} (h1 : n < m) (h2 : m ≤ s.length) (h3 : m = s.length ∨ ∃ hm : m < s.length, s[m] = 32 ∨ s[m] = 10) (more : By) (h4 : (s.take m ++ 32 :: more).length ≤ 8000) : scanQ (s.take m ++ 32 :: more) = .error (c, n) := by
  obtain ⟨j, y, rfl, hF, hn, hj⟩ := faults hl h
  have hf0 := hF.f0
  have hf1 := hF.f1
  have hjm : j ≤ m := by
    rcases Nat.lt_or_ge m j with hlt | hge
    · rcases h3 with h3 | ⟨hm, h3⟩
      · omega
      · have hmem : s[m] ∈ cutB s y.fr.toNat j := by
          unfold cutB
          refine List.mem_iff_getElem.2 ⟨m - y.fr.toNat, by simp; omega, ?_⟩
          rw [List.getElem_drop, List.getElem_take]
          congr 1
          omega
        obtain ⟨b1, b2⟩ := hF.run hc _ hmem
        rcases h3 with h3 | h3
        · exact absurd h3 b1
        · exact absurd h3 b2
    · exact hge
  have hlm : (s.take m).length = m := by simp; omega
  have ht : (s.take m ++ 32 :: more).take j = s.take j := by
    rw [List.take_append_of_le_length (by omega), List.take_take, Nat.min_eq_left hjm]
  have hi' : j < (s.take m ++ 32 :: more).length := by simp; omega
  have hfold : foldQ (s.take m ++ 32 :: more) 0 x0 (s.take m ++ 32 :: more) = (c, y) := by
    refine hF.loc hc _ ht hi' ?_
    rcases Nat.lt_or_ge j m with hlt | hge
    · refine .inl ⟨by omega, ?_⟩
      rw [List.getElem_append_left (by omega), List.getElem_take]
    · obtain rfl : j = m := by omega
      refine .inr ⟨?_, by omega⟩
      rw [List.getElem_append_right (by omega)]
      simp [hlm]
  rw [scan_foldQ h4 hfold, if_pos hF.c0.1]
end Go.Proofs.YtkpdbbbeagnjpaaGreatDoor
/-
  Scan's contract in two shapes; two numbers added. Condition: the library's ErrRange reads as its text lays it.
-/
namespace Go.Proofs.YtkpdbbbeagnjpaaGreatDoor
open Go.RowKit Go.Lib

/-- Two numbers added, up to the bound. -/
def addI (n m : Int) : Int := if 2147483647 - n < m then 2147483648 else n + m
theorem addI_in {n m : Int} (h0 : 0 ≤ n) (h2 : 0 ≤ m) : 0 ≤ addI n m ∧ addI n m ≤ 2147483648 := by
  unfold addI
  split <;> omega
set_option maxHeartbeats 1000000 in
theorem add2_any (n m : Int) (w : World) (h0 : 0 ≤ n) (h1 : n ≤ 281474976710656) (h2 : 0 ≤ m) (h3 : m ≤ 281474976710656) : Calls Tryz.prog 6 #[.int .i64 n, .int .i64 m] w fun e w' => e = .returned (.int .i64 (addI n m)) ∧ w' = w := by
  have f1 : IntKind.i64.wrap (2147483647 - n) = 2147483647 - n := by simp [IntKind.wrap, IntKind.bits, IntKind.signed]; omega
  have f2 : IntKind.i64.wrap (n + m) = n + m := by simp [IntKind.wrap, IntKind.bits, IntKind.signed]; omega
  by_cases h : 2147483647 - n < m
  · have e : addI n m = 2147483648 := by unfold addI; rw [if_pos h]
    rw [e]
    go_enter Tryz.func6, Tryz.ntmps6
    go_wp2
    go_ret
    exact ⟨rfl, rfl⟩
  · have e : addI n m = n + m := by unfold addI; rw [if_neg h]
    rw [e]
    go_enter Tryz.func6, Tryz.ntmps6
    go_wp2
    go_ret
    exact ⟨rfl, rfl⟩
theorem ErrV.grow {w w' : World} (h : ErrV w.heap.size w) (hb : Below w.heap.size w w') : ErrV w'.heap.size w' := by
  obtain ⟨g, tp, p, h1, h2, h3⟩ := h.below hb
  exact ⟨g, tp, p, h1, Nat.lt_of_lt_of_le h2 hb.size, h3⟩
theorem scan_okc {s : By} {L : List Tk} (h : scanQ s = .ok L) (w : World) (hev : ErrV w.heap.size w) :
    Calls Tryz.prog 8 #[.string ⟨s.toArray⟩] w fun e w' => (∃ tv, e = .returned (.tuple #[tv, .int .i64 0, .int .i64 0]) ∧ w'.ownsRow w.heap.size 40 6 tv L.length (tkC L)) ∧ Below w.heap.size w w' := by
  refine (scan_any s w hev).mono ?_
  rintro e w' ⟨g, x⟩
  unfold ScnQ at g
  rw [h] at g
  exact ⟨g, x⟩
theorem scan_errc {s : By} {c n : Int} (h : scanQ s = .error (c, n)) (w : World) (hev : ErrV w.heap.size w) :
    Calls Tryz.prog 8 #[.string ⟨s.toArray⟩] w fun e w' => e = .returned (.tuple #[.slice none 0 0, .int .i64 c, .int .i64 n]) ∧ Below w.heap.size w w' := by
  refine (scan_any s w hev).mono ?_
  rintro e w' ⟨g, x⟩
  unfold ScnQ at g
  rw [h] at g
  exact ⟨g, x⟩
theorem scan_long {s : By} (h : 8000 < s.length) : scanQ s = .error (84, 8000) := by
  unfold scanQ
  rw [if_pos h]
theorem scan_err_ne {s : By} {c n : Int} (h : scanQ s = .error (c, n)) : c ≠ 0 := by
  by_cases hl : s.length ≤ 8000
  · exact (scan_ahead hl h).1.1
  · rw [scan_long (by omega)] at h
    obtain ⟨rfl, _⟩ := Prod.mk.inj (Except.error.inj h)
    decide
theorem scan_ok_len {s : By} {L : List Tk} (h : scanQ s = .ok L) : s.length ≤ 8000 := by
  rcases Nat.lt_or_ge 8000 s.length with h' | h'
  · rw [scan_long h'] at h
    cases h
  · exact h'
end Go.Proofs.YtkpdbbbeagnjpaaGreatDoor
/-
  The pieces, one by one. Pure. No condition.
-/
namespace Go.Proofs.YtkpdbbbeagnjpaaGreatDoor
open Go.RowKit Go.Lib

theorem toks_len {s : By} : ∀ (k : Nat) (rm : Bool) (a : Nat) (L : List Tk), s.length - a ≤ k → a ≤ s.length → toks rm a (s.drop a) = .ok L → L.length ≤ s.length - a + 1 := by
  intro k
  induction k with
  | zero =>
    intro rm a L hk ha h
    rcases toks_cases ha h with ⟨_, rfl⟩ | ⟨ha', _⟩ | ⟨_, ha', _⟩
    · simp
    · omega
    · omega
  | succ k ih =>
    intro rm a L hk ha h
    rcases toks_cases ha h with ⟨_, rfl⟩ | ⟨ha', rm', h1, _⟩ | ⟨_, ha', _, _, x, n, L', _, n1, n2, rfl, h1⟩
    · simp
    · have := ih rm' (a + 1) L (by omega) (by omega) h1
      omega
    · have := ih false (a + n) L' (by omega) (by omega) h1
      simp only [List.length_cons]
      omega
theorem scan_len {s : By} {L : List Tk} (h : scanQ s = .ok L) : L.length ≤ 8001 ∧ 1 ≤ L.length := by
  have hl := scan_ok_len h
  rw [scan_toks hl] at h
  have h1 := toks_len (s := s) s.length false 0 L (by omega) (by omega) (by rw [List.drop_zero]; exact h)
  have h2 := toks_ne (s := s) s.length false 0 L (by omega) (by omega) (by rw [List.drop_zero]; exact h)
  refine ⟨by omega, ?_⟩
  cases L with
  | nil => exact absurd rfl h2
  | cons a L => simp
theorem spr_len (s : By) : ∀ (L : List Tk) (i : Nat), (spr s i L).length ≤ L.length * (s.length + 2)
  | [], _ => by simp [spr]
  | [_], _ => by simp [spr]
  | a :: b :: L, i => by
    have ih := spr_len s (b :: L) (i + 1)
    rw [spr_cons]
    have h1 : (cutB s a.p.toNat b.p.toNat).length ≤ s.length := by
      unfold cutB
      simp
      omega
    have h2 : (sepB i).length ≤ 2 := by
      unfold sepB
      split <;> simp
    have e : (a :: b :: L).length * (s.length + 2) = (b :: L).length * (s.length + 2) + (s.length + 2) := by
      rw [List.length_cons, Nat.add_mul, Nat.one_mul]
    rw [e, List.length_append, List.length_append]
    omega
theorem spr_step (s : By) (L : List Tk) (i : Nat) (hi : i + 1 < L.length) : spr s i (L.drop i) = cutB s L[i].p.toNat L[i + 1].p.toNat ++ sepB i ++ spr s (i + 1) (L.drop (i + 1)) := by
  rw [List.drop_eq_getElem_cons (show i < L.length by omega), List.drop_eq_getElem_cons hi, spr_cons]
theorem spr_stop (s : By) (L : List Tk) (i : Nat) (hi : L.length ≤ i + 1) : spr s i (L.drop i) = [] := by
  have : (L.drop i).length ≤ 1 := by simp; omega
  generalize L.drop i = M at *
  match M, this with
  | [], _ => rfl
  | [_], _ => rfl
/-- What Scan tells of the pieces. -/
theorem spread_scan {s : By} {L : List Tk} (h : scanQ s = .ok L) : ((spr s 0 L).length ≤ 8000 → ∃ M, scanQ (spr s 0 L) = .ok M ∧ L.map bareT = M.map bareT) ∧ upT s 0 L ∧ (spr s 0 L).length ≤ 1000000000 := by
  have hl := scan_ok_len h
  obtain ⟨h1, _⟩ := scan_len h
  have hs := spr_len s L 0
  have hm : L.length * (s.length + 2) ≤ 8001 * 8002 := Nat.mul_le_mul h1 (by omega)
  rw [scan_toks hl] at h
  obtain ⟨⟨M, m1, m2⟩, hu⟩ := spread h
  exact ⟨fun h8 => ⟨M, by rw [scan_toks h8]; exact m1, m2.symm⟩, hu, by omega⟩
end Go.Proofs.YtkpdbbbeagnjpaaGreatDoor
