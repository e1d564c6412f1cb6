/-
  New of a label. No condition.
-/
import Derived.Test.YtnfdjbaafiifnaaP23
import Derived.Test.YtnfdjbaafiifnaaP44
import Derived.Test.YtnfdjbaafiifnaaP39
namespace Go.Proofs.Ytnfdjbaafiifnaa
open Go.RowKit Go.Lib

theorem newL_any (l : Int) (hl : Lab l) (w : World) : Calls Try.prog 9 #[.int .i64 l] w fun e w' => (∃ b, e = .returned (.tuple #[.pointer (some ⟨b, 0, none⟩), .int .i64 0]) ∧ TrieAt w' (.leaf l) (.pointer (some ⟨b, 0, none⟩)) ∧ w.heap.size ≤ b) ∧ Below w.heap.size w w' := (new_any l w).mono fun e w' ⟨h, x⟩ => by
  rcases h with ⟨_, v, h1, h2, b, rfl, h3⟩ | ⟨h1, _⟩
  · exact ⟨⟨b, h1, h2, h3⟩, x⟩
  · exact absurd hl h1
theorem lab_pk (c : Int) : Lab ((pkZ c 65536 : Nat) : Int) := by
  have := pkZ_lt c (n := 65536) (by decide)
  unfold Lab
  omega

end Go.Proofs.Ytnfdjbaafiifnaa
/-
  What a step of the script leaves: a trie and the document's that say the same, the book beside them; both sides' answers to Put, Find, New in one shape. No condition.
-/
namespace Go.Proofs.Ytnfdjbaafiifnaa
open Go.RowKit Go.Lib

/-- The book, with m lists at most. -/
def Bk (w : World) (base bb m : Nat) : Prop := ∃ fr wa alv n FD WD A RR, BkAt w base bb fr wa alv n FD WD A RR ∧ WD.length = FD.length ∧ n + FD.length ≤ m
theorem Bk.kept {F : Nat → Prop} {w w' : World} {base bb m : Nat} (h : Bk w base bb m) (hk : Kept F w w') (hF : ∀ k, F k → ∃ cs t f, w.heap[k]? = some (.cells cs t f) ∧ t ≠ 28 ∧ t ≠ 44 ∧ t ≠ 65) : Bk w' base bb m := by
  obtain ⟨fr, wa, alv, n, FD, WD, A, RR, h1, h2⟩ := h
  exact ⟨fr, wa, alv, n, FD, WD, A, RR, h1.kept hk hF, h2⟩
theorem Bk.below {w w' : World} {base bb m : Nat} (h : Bk w base bb m) (x : Below w.heap.size w w') : Bk w' base bb m := h.kept (F := fun _ => False) (Kept.of_below x) (fun _ h => h.elim)
theorem Bk.mono {w : World} {base bb m m' : Nat} (h : Bk w base bb m) (hm : m ≤ m') : Bk w base bb m' := by
  obtain ⟨fr, wa, alv, n, FD, WD, A, RR, h1, h2, h3⟩ := h
  exact ⟨fr, wa, alv, n, FD, WD, A, RR, h1, h2, by omega⟩
theorem still_bk {w : World} {base bb m : Nat} (h : Bk w base bb m) (hm : m ≤ 4294967296) : Calls Try.prog 13 #[.pointer (some ⟨bb, 0, none⟩)] w fun e w' => e = .returned (.bool true) ∧ Bk w' base bb m ∧ BkK base w w' := by
  obtain ⟨fr, wa, alv, n, FD, WD, A, RR, h1, h2, h3⟩ := h
  exact (still_any w base bb fr wa alv n FD WD A RR h1 h2 (by omega)).mono fun e w' ⟨g1, ⟨al', A', g2⟩, g3⟩ => ⟨g1, ⟨_, _, _, _, _, _, _, _, g2, rfl, by simpa using h3⟩, g3⟩
theorem SdAt.other {F : Nat → Prop} {w w' : World} {xb tb rb : Nat} {T : Tr} (h : SdAt w xb tb rb T) (hk : Kept F w w') (hF : ∀ k, F k → k ≠ xb ∧ k ≠ tb ∧ k ≠ rb ∧ ∃ cs t f, w.heap[k]? = some (.cells cs t f) ∧ t ≠ 98 ∧ t ≠ 75) : SdAt w' xb tb rb T := by
  refine ⟨(hk.block xb (lt_of_block h.blk) (fun hf => (hF xb hf).1 rfl)).trans h.blk, ?_, ?_, h.nf, h.labs, h.dep⟩
  · obtain ⟨b, r, e, h1, h2⟩ := h.tr
    injection e with e; injection e with e; injection e with e; subst e
    exact ⟨tb, r, rfl, (hk.block tb (lt_of_block h1) (fun hf => (hF tb hf).2.1 rfl)).trans h1, NodeAt.kept hk (fun k hf => by obtain ⟨_, _, _, cs, t, f, g1, g2, _⟩ := hF k hf; exact ⟨cs, t, f, g1, g2⟩) h2⟩
  · obtain ⟨v, base, m, hm, h1, h2⟩ := h.dt
    refine ⟨v, base, m, hm, (hk.block rb (lt_of_block h1) (fun hf => (hF rb hf).2.2.1 rfl)).trans h1, own_kept h2 hk (fun k h3 h4 => ?_)⟩
    obtain ⟨_, _, _, cs, t, f, h5, _, h6⟩ := hF k h4
    obtain ⟨cs', h7⟩ := own_ty h2 k h3
    rw [h7] at h5
    simp at h5
    exact h6 h5.2.1.symm
theorem SdAt.bk {w w' : World} {base xb tb rb : Nat} {T : Tr} (h : SdAt w xb tb rb T) (hk : BkK base w w') : SdAt w' xb tb rb T := by
  obtain ⟨r, hr⟩ := h.tr.blk4
  obtain ⟨v, hv⟩ := h.dt.blk
  refine h.other hk (fun k ⟨_, cs, t, f, h1, h2⟩ => ⟨fun e => ?_, fun e => ?_, fun e => ?_, cs, t, f, h1, ?_, ?_⟩)
  · subst e; rw [h.blk] at h1; simp at h1; rcases h2 with h2 | h2 | h2 <;> rw [← h1.2.1] at h2 <;> cases h2
  · subst e; rw [hr] at h1; simp at h1; rcases h2 with h2 | h2 | h2 <;> rw [← h1.2.1] at h2 <;> cases h2
  · subst e; rw [hv] at h1; simp at h1; rcases h2 with h2 | h2 | h2 <;> rw [← h1.2.1] at h2 <;> cases h2
  · rcases h2 with rfl | rfl | rfl <;> decide
  · rcases h2 with rfl | rfl | rfl <;> decide
/-- What a step leaves. -/
structure StP (w : World) (base xb tb rb bb m : Nat) (w' : World) : Prop where
  sd : ∃ tb' rb' T', SdAt w' xb tb' rb' T' ∧ (tb' = tb ∨ w.heap.size ≤ tb') ∧ (rb' = rb ∨ w.heap.size ≤ rb')
  bk : Bk w' base bb m
  kept : Kept (fun k => k = xb ∨ k = tb ∨ k = rb ∨ BkF base w k) w w'
theorem StP.start {w W w' : World} {base xb tb rb bb m : Nat} (x : Below w.heap.size w W) (h : StP W base xb tb rb bb m w') : StP w base xb tb rb bb m w' := by
  obtain ⟨⟨tb', rb', T', h1, h2, h3⟩, h4, h5⟩ := h
  refine ⟨⟨tb', rb', T', h1, h2.imp id (Nat.le_trans x.size), h3.imp id (Nat.le_trans x.size)⟩, h4, Kept.trans_new (Kept.of_below (F := fun k => k = xb ∨ k = tb ∨ k = rb ∨ BkF base w k) x) h5 (fun i hi hf => ?_)⟩
  rcases hf with h | h | h | h
  · exact .inl h
  · exact .inr (.inl h)
  · exact .inr (.inr (.inl h))
  · rcases BkF.back (F := fun _ => False) (Kept.of_below x) hi h with h | h
    · exact h.elim
    · exact .inr (.inr (.inr h))
theorem SdAt.lt {w : World} {xb tb rb : Nat} {T : Tr} (h : SdAt w xb tb rb T) : xb < w.heap.size ∧ tb < w.heap.size ∧ rb < w.heap.size := by
  obtain ⟨r, hr⟩ := h.tr.blk4
  obtain ⟨v, hv⟩ := h.dt.blk
  exact ⟨lt_of_block h.blk, lt_of_block hr, lt_of_block hv⟩
/-- Nothing but the side was written. -/
theorem StP.side {w w' : World} {base xb tb rb bb m : Nat} {T : Tr} (h : SdAt w xb tb rb T) (hb : Bk w base bb m) (hk : Kept (fun k => k = xb ∨ k = tb ∨ k = rb) w w') {tb' rb' : Nat} {T' : Tr} (h' : SdAt w' xb tb' rb' T') (h1 : tb' = tb ∨ w.heap.size ≤ tb') (h2 : rb' = rb ∨ w.heap.size ≤ rb') : StP w base xb tb rb bb m w' := by
  obtain ⟨r, hr⟩ := h.tr.blk4
  obtain ⟨v, hv⟩ := h.dt.blk
  refine ⟨⟨tb', rb', T', h', h1, h2⟩, hb.kept hk (fun k hf => ?_), hk.mono (fun k hf => ?_)⟩
  · rcases hf with rfl | rfl | rfl
    · exact ⟨_, 39, _, h.blk, by decide, by decide, by decide⟩
    · exact ⟨_, 73, _, hr, by decide, by decide, by decide⟩
    · exact ⟨_, 78, _, hv, by decide, by decide, by decide⟩
  · rcases hf with h | h | h
    · exact .inl h
    · exact .inr (.inl h)
    · exact .inr (.inr (.inl h))
theorem put_both {tb rb : Nat} {T : Tr} (a k l : Int) (hn : T.nf) (hl : T.labs Lab) (hd : T.dep ≤ 32) : ∃ (ev : Int) (T' : Tr), T'.nf ∧ T'.labs Lab ∧ T'.dep ≤ 32 ∧
    (∀ W, TrieAt W T (.pointer (some ⟨tb, 0, none⟩)) → Calls Try.prog 18 #[.pointer (some ⟨tb, 0, none⟩), .agg #[.int .i64 a, .int .i64 k], .int .i64 l] W fun e w' => e = .returned (.int .i64 ev) ∧ TrieAt w' T' (.pointer (some ⟨tb, 0, none⟩)) ∧ Kept (fun x => x = tb) W w') ∧
    (∀ W, DtAt W rb T.at → Calls Try.prog 28 #[.pointer (some ⟨rb, 0, none⟩), .agg #[.int .i64 a, .int .i64 k], .int .i64 l] W fun e w' => e = .returned (.int .i64 ev) ∧ DtAt w' rb T'.at ∧ Kept (fun x => x = rb) W w') := by
  by_cases h : Pfx a k ∧ Lab l
  · obtain ⟨A, K, hA, hK, hK32, hA32, hAm⟩ := h.1.nat
    refine ⟨0, T.put A K l, put_nf _ _ _ hn, put_labs h.2 _ _ _ hl, put_dep _ _ _ _ hd hK32, fun W hT => (putT_any a k l W hT).mono fun e w' ⟨g1, _, g3⟩ => ?_, fun W hD => (putD_any a k l hD).mono fun e w' g => ?_⟩
    · obtain ⟨g4, g5⟩ := g1 h
      rw [hA, hK] at g5
      exact ⟨g4, g5, g3⟩
    · obtain ⟨g4, g5, g6⟩ := g.2 h
      refine ⟨g4, g5.congr (fun y hy => ?_), g6⟩
      rw [hA, hK, Int.toNat_natCast, Int.toNat_natCast, put_at _ _ _ _ hK32 hA32 hy]
      unfold putF
      have hS : 0 < 2 ^ (32 - K) := Nat.pow_pos (by decide)
      generalize 2 ^ (32 - K) = S at *
      have key : (A ≤ y ∧ y < A + S) ↔ y / S = A / S := by
        obtain ⟨c, rfl⟩ := Nat.dvd_of_mod_eq_zero hAm
        rw [Nat.mul_div_cancel_left _ hS, Nat.div_eq_iff hS, Nat.mul_comm S c]
        omega
      by_cases hy2 : y / S = A / S
      · rw [if_pos hy2, if_pos (key.2 hy2)]
      · rw [if_neg hy2, if_neg (fun h => hy2 (key.1 h))]
  · refine ⟨1, T, hn, hl, hd, fun W hT => (putT_any a k l W hT).mono fun e w' ⟨_, g2, g3⟩ => ?_, fun W hD => (putD_any a k l hD).mono fun e w' g => ?_⟩
    · obtain ⟨g4, g5⟩ := g2 h
      exact ⟨g4, g5, g3⟩
    · obtain ⟨g4, g5⟩ := g.1 h
      exact ⟨g4, hD.below g5, Kept.of_below g5⟩
theorem find_both {tb rb : Nat} {T : Tr} (n : Int) : ∃ (lv ev : Int),
    (∀ W, TrieAt W T (.pointer (some ⟨tb, 0, none⟩)) → Calls Try.prog 20 #[.pointer (some ⟨tb, 0, none⟩), .int .i64 n] W fun e w' => e = .returned (.tuple #[.int .i64 lv, .int .i64 ev]) ∧ Below W.heap.size W w') ∧
    (∀ W, DtAt W rb T.at → Calls Try.prog 29 #[.pointer (some ⟨rb, 0, none⟩), .int .i64 n] W fun e w' => e = .returned (.tuple #[.int .i64 lv, .int .i64 ev]) ∧ Below W.heap.size W w') := by
  by_cases h : 0 ≤ n ∧ n ≤ 4294967295
  · exact ⟨T.at n.toNat, 0, fun W hT => (findT_any n W hT).mono fun e w' ⟨g1, _, g3⟩ => ⟨g1 h, g3⟩, fun W hD => (findD_any n hD).mono fun e w' ⟨g1, g3⟩ => ⟨g1.1 h, g3⟩⟩
  · exact ⟨0, 1, fun W hT => (findT_any n W hT).mono fun e w' ⟨_, g2, g3⟩ => ⟨g2 h, g3⟩, fun W hD => (findD_any n hD).mono fun e w' ⟨g1, g3⟩ => ⟨g1.2 h, g3⟩⟩
end Go.Proofs.Ytnfdjbaafiifnaa
