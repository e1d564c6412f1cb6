/-
  Operations whose arguments are not there: ErrArg at once, in both arenas. No condition.
-/
import Derived.Test.YtaafeflbanoncaaP35
import Derived.Test.YtaafeflbanoncaaP37
namespace Go.Proofs.Ytaafeflbanoncaa
open Go.RowKit Go.Lib Go.Maps

section
variable {w w' : World} {a x m : Nat} {S : List Int} {M : Int} {N : List Nd} {P Q : Nat → Prop} {f g lv c : Int}
abbrev badE : Ending := .returned (.tuple #[.int .i64 0, .int .i64 1])
theorem CQ.bad (h : CA w a S M N m P) (y : Below w.heap.size w w') : CQ a S M N P (0, 1, N) w badE w' := ⟨P, rfl, (h.below y).tight, Kept.of_below y, Gw.refl _ _, .inr (.inr ⟨rfl, rfl, rfl⟩)⟩
theorem DQ.bad (h : RA w x S M N Q) (y : Below w.heap.size w w') : DQ x S M Q (0, 1, N) w badE w' := ⟨Q, rfl, h.below y, Kept.of_below y, Gw.refl _ _⟩
set_option maxRecDepth 100000 in
theorem join_bad {cl : Nat} (h : CA w a S M N m P) (hfg : ¬ (hasR N f ∧ hasR N g)) :
    Calls Try.prog 57 #[.pointer (some ⟨a, 0, none⟩), .agg #[.int .i64 f, .int .i64 g], .func (.func cl) #[] #[]] w fun e w' => e = badE ∧ Below w.heap.size w w' := by
  have y1 : Below w.heap.size w (w.alloc (.cells #[.int .i64 f, .int .i64 g] 100)) := al (Below.refl _ _) _
  have nb : (w.alloc (.cells #[.int .i64 f, .int .i64 g] 100)).heap[w.heap.size]? = some (.cells #[.int .i64 f, .int .i64 g] 100 (0, 0)) := heap_alloc_new w _
  have HH := hide h
  have HFG := hide hfg
  have X1 := hide y1
  have e0 : (w.alloc (.cells #[.int .i64 f, .int .i64 g] 100)).cell? ⟨w.heap.size, 0, none⟩ = some (.int .i64 f) := by rw [cell_of_row _ _ _ _ _ _ nb]; rfl
  have e1 : (w.alloc (.cells #[.int .i64 f, .int .i64 g] 100)).cell? ⟨w.heap.size, 1, none⟩ = some (.int .i64 g) := by rw [cell_of_row _ _ _ _ _ _ nb]; rfl
  clear h hfg y1 nb
  go_enter Try.func57, Try.ntmps57
  go_upto_region 1 with fail
  generalize w.alloc (.cells #[.int .i64 f, .int .i64 g] 100) = w1 at *
  have XW1 : Hid (Below w.heap.size w w1) := X1.out
  generalize hpb : w.heap.size = pb at e0 e1 ⊢
  clear hpb X1
  have y2 : Below w1.heap.size w1 (w1.alloc (.cells #[.int .i64 f, .int .i64 g] 3)) := al (Below.refl _ _) _
  have X2 := hide (bt XW1.out y2 (Nat.le_refl _))
  have AT := hide (areThere_any (some ⟨w1.heap.size, 0, none⟩) 2 [f, g] (by simp) (zat_new w1 [f, g]) (HH.out.below X2.out))
  clear y2
  go_wp2_with (go_at_call 59; refine AT.out.mono ?_; rintro e w2 ⟨⟨b, rfl, hb⟩, x2⟩; have hbt : b = false := (by cases b with | false => rfl | true => exact absurd (And.intro (hb.1 rfl f (by simp)) (hb.1 rfl g (by simp))) HFG.out); subst hbt; have X3 := hide (bt X2.out x2 (Nat.le_refl _)); clear hb x2)
  go_ret2
  exact ⟨rfl, X3.out⟩
set_option maxRecDepth 100000 in
theorem and_bad (h : CA w a S M N m P) (hfg : ¬ (hasR N f ∧ hasR N g)) : Calls Try.prog 24 #[.pointer (some ⟨a, 0, none⟩), .int .i64 f, .int .i64 g] w fun e w' => e = badE ∧ Below w.heap.size w w' := by
  have HJ := hide (join_bad (cl := 58) h hfg)
  clear h hfg
  go_enter Try.func24, Try.ntmps24
  go_wp2_with (go_at_call 57; refine HJ.out.mono ?_; rintro e w1 ⟨rfl, x1⟩; have X1 := hide x1; clear x1)
  go_ret2
  exact ⟨rfl, X1.out⟩
set_option maxRecDepth 100000 in
theorem or_bad (h : CA w a S M N m P) (hfg : ¬ (hasR N f ∧ hasR N g)) : Calls Try.prog 39 #[.pointer (some ⟨a, 0, none⟩), .int .i64 f, .int .i64 g] w fun e w' => e = badE ∧ Below w.heap.size w w' := by
  have HJ := hide (join_bad (cl := 73) h hfg)
  clear h hfg
  go_enter Try.func39, Try.ntmps39
  go_wp2_with (go_at_call 57; refine HJ.out.mono ?_; rintro e w1 ⟨rfl, x1⟩; have X1 := hide x1; clear x1)
  go_ret2
  exact ⟨rfl, X1.out⟩
set_option maxRecDepth 100000 in
theorem xor_bad (h : CA w a S M N m P) (hfg : ¬ (hasR N f ∧ hasR N g)) : Calls Try.prog 41 #[.pointer (some ⟨a, 0, none⟩), .int .i64 f, .int .i64 g] w fun e w' => e = badE ∧ Below w.heap.size w w' := by
  have HJ := hide (join_bad (cl := 74) h hfg)
  clear h hfg
  go_enter Try.func41, Try.ntmps41
  go_wp2_with (go_at_call 57; refine HJ.out.mono ?_; rintro e w1 ⟨rfl, x1⟩; have X1 := hide x1; clear x1)
  go_ret2
  exact ⟨rfl, X1.out⟩
set_option maxRecDepth 100000 in
theorem not_bad (h : CA w a S M N m P) (hf : ¬ hasR N f) : Calls Try.prog 25 #[.pointer (some ⟨a, 0, none⟩), .int .i64 f] w fun e w' => e = badE ∧ Below w.heap.size w w' := by
  have HJ := hide (xor_bad (g := 1) h (fun h => hf h.1))
  clear h hf
  go_enter Try.func25, Try.ntmps25
  go_wp2_with (go_at_call 41; refine HJ.out.mono ?_; rintro e w1 ⟨rfl, x1⟩; have X1 := hide x1; clear x1)
  go_ret2
  exact ⟨rfl, X1.out⟩
set_option maxRecDepth 100000 in
theorem set_bad {ao : Option Addr} {n cap : Nat} (h : CA w a S M N m P) (hb : szL S lv = 0 ∨ (n : Int) ≠ szL S lv) : Calls Try.prog 23 #[.pointer (some ⟨a, 0, none⟩), .int .i64 lv, .slice ao n cap] w fun e w' => e = badE ∧ Below w.heap.size w w' := by
  have SZ := hide (sizeOf_any lv h)
  clear h
  generalize szL S lv = s at *
  by_cases h0 : s = 0
  · subst h0
    clear hb
    go_enter Try.func23, Try.ntmps23
    go_wp2_with (go_at_call 55; refine SZ.out.mono ?_; rintro e w1 ⟨rfl, x1⟩; have X1 := hide x1; clear x1)
    go_ret2
    exact ⟨rfl, X1.out⟩
  · have h1 : ¬ (n : Int) = s := hb.resolve_left h0
    have h2 : (s == 0) = false := beq_eq_false_iff_ne.2 h0
    have h3 : ((n : Int) == s) = false := beq_eq_false_iff_ne.2 h1
    clear hb
    go_enter Try.func23, Try.ntmps23
    go_wp2_with (go_at_call 55; refine SZ.out.mono ?_; rintro e w1 ⟨rfl, x1⟩; have X1 := hide x1; clear x1)
    go_ret2
    exact ⟨rfl, X1.out⟩
set_option maxRecDepth 100000 in
theorem two_bad {what : Int} (h : RA w x S M N Q) (hfg : ¬ (hasR N f ∧ hasR N g)) : Calls Try.prog 72 #[.pointer (some ⟨x, 0, none⟩), .int .i64 what, .int .i64 f, .int .i64 g] w fun e w' => e = badE ∧ w' = w := by
  have hH1 := h.has f
  have hH2 := h.has g
  by_cases hf : hasR N f
  · have hg : ¬ hasR N g := fun h => hfg ⟨hf, h⟩
    rw [(hasN_iff N rfl).2 hf] at hH1
    rw [Bool.eq_false_iff.2 (fun h => hg ((hasN_iff N rfl).1 h))] at hH2
    have H1 := hide hH1
    have H2 := hide hH2
    clear h hfg hH1 hH2 hf hg
    go_enter Try.func72, Try.ntmps72
    go_upto_region 2 with (go_at_call 52; refine H1.out.mono ?_; rintro e w1 ⟨rfl, hw1⟩; have hw2 := hw1.symm; clear hw1; subst hw2)
    clear H1
    go_wp2_with (go_at_call 52; refine H2.out.mono ?_; rintro e w1 ⟨rfl, hw1⟩; have hw2 := hw1.symm; clear hw1; subst hw2)
    go_ret2
    exact ⟨rfl, rfl⟩
  · rw [Bool.eq_false_iff.2 (fun h => hf ((hasN_iff N rfl).1 h))] at hH1
    have H1 := hide hH1
    have H2 := hide hH2
    clear h hfg hH1 hH2 hf
    generalize hasN N.length g = bg at *
    go_enter Try.func72, Try.ntmps72
    go_upto_region 2 with (go_at_call 52; refine H1.out.mono ?_; rintro e w1 ⟨rfl, hw1⟩; have hw2 := hw1.symm; clear hw1; subst hw2)
    clear H1
    go_wp2_with (go_at_call 52; refine H2.out.mono ?_; rintro e w1 ⟨rfl, hw1⟩; have hw2 := hw1.symm; clear hw1; subst hw2)
    go_ret2
    exact ⟨rfl, rfl⟩
set_option maxRecDepth 100000 in
theorem andD_bad (h : RA w x S M N Q) (hfg : ¬ (hasR N f ∧ hasR N g)) : Calls Try.prog 38 #[.pointer (some ⟨x, 0, none⟩), .int .i64 f, .int .i64 g] w fun e w' => e = badE ∧ w' = w := by
  have HJ := hide (two_bad (what := 1) h hfg)
  clear h hfg
  go_enter Try.func38, Try.ntmps38
  go_wp2_with (go_at_call 72; refine HJ.out.mono ?_; rintro e w1 ⟨rfl, hw1⟩; have hw2 := hw1.symm; clear hw1; subst hw2)
  go_ret2
  exact ⟨rfl, rfl⟩
set_option maxRecDepth 100000 in
theorem orD_bad (h : RA w x S M N Q) (hfg : ¬ (hasR N f ∧ hasR N g)) : Calls Try.prog 40 #[.pointer (some ⟨x, 0, none⟩), .int .i64 f, .int .i64 g] w fun e w' => e = badE ∧ w' = w := by
  have HJ := hide (two_bad (what := 2) h hfg)
  clear h hfg
  go_enter Try.func40, Try.ntmps40
  go_wp2_with (go_at_call 72; refine HJ.out.mono ?_; rintro e w1 ⟨rfl, hw1⟩; have hw2 := hw1.symm; clear hw1; subst hw2)
  go_ret2
  exact ⟨rfl, rfl⟩
set_option maxRecDepth 100000 in
theorem xorD_bad (h : RA w x S M N Q) (hfg : ¬ (hasR N f ∧ hasR N g)) : Calls Try.prog 42 #[.pointer (some ⟨x, 0, none⟩), .int .i64 f, .int .i64 g] w fun e w' => e = badE ∧ w' = w := by
  have HJ := hide (two_bad (what := 3) h hfg)
  clear h hfg
  go_enter Try.func42, Try.ntmps42
  go_wp2_with (go_at_call 72; refine HJ.out.mono ?_; rintro e w1 ⟨rfl, hw1⟩; have hw2 := hw1.symm; clear hw1; subst hw2)
  go_ret2
  exact ⟨rfl, rfl⟩
set_option maxRecDepth 100000 in
theorem notD_bad (h : RA w x S M N Q) (hf : ¬ hasR N f) : Calls Try.prog 37 #[.pointer (some ⟨x, 0, none⟩), .int .i64 f] w fun e w' => e = badE ∧ w' = w := by
  have HJ := hide (xorD_bad (g := 1) h (fun h => hf h.1))
  clear h hf
  go_enter Try.func37, Try.ntmps37
  go_wp2_with (go_at_call 42; refine HJ.out.mono ?_; rintro e w1 ⟨rfl, hw1⟩; have hw2 := hw1.symm; clear hw1; subst hw2)
  go_ret2
  exact ⟨rfl, rfl⟩
set_option maxRecDepth 100000 in
theorem setD_bad {ao : Option Addr} {n cap : Nat} (h : RA w x S M N Q) (hb : szL S lv = 0 ∨ (n : Int) ≠ szL S lv) : Calls Try.prog 44 #[.pointer (some ⟨x, 0, none⟩), .int .i64 lv, .slice ao n cap] w fun e w' => e = badE ∧ w' = w := by
  obtain ⟨sb, sc, s0, _, s2, _⟩ := h.fields
  by_cases h0 : lv < 0
  · clear s2 h hb
    go_enter Try.func44, Try.ntmps44
    go_wp2
    go_ret2
    exact ⟨rfl, rfl⟩
  by_cases h1 : (S.length : Int) ≤ lv
  · clear s2 h hb
    go_enter Try.func44, Try.ntmps44
    go_wp2
    go_ret2
    exact ⟨rfl, rfl⟩
  obtain ⟨l, rfl⟩ : ∃ l : Nat, lv = (l : Int) := ⟨lv.toNat, by omega⟩
  have hl : l < S.length := by omega
  have q := s2.cell hl
  have e : szL S (l : Int) = S.getD l 0 := by unfold szL; rw [if_pos (by omega), Int.toNat_natCast]
  have hs := (h.ok.sz.each _ (getD_mem hl)).1
  rw [e] at hb
  generalize S.getD l 0 = s at *
  have h2 : ¬ (n : Int) = s := hb.resolve_left (by omega)
  have h3 : ((n : Int) == s) = false := beq_eq_false_iff_ne.2 h2
  have hl1 : (l : Int) < (S.length : Int) := by omega
  have h1' : ¬ S.length ≤ l := by omega
  clear s2 h hb e hs
  go_enter Try.func44, Try.ntmps44
  go_wp2
  go_ret2
  exact ⟨rfl, rfl⟩
set_option maxRecDepth 100000 in
theorem cutD_bad (h : RA w x S M N Q) (hb : ¬ (hasR N f ∧ 0 ≤ c ∧ c < szL S lv)) : Calls Try.prog 43 #[.pointer (some ⟨x, 0, none⟩), .int .i64 f, .int .i64 lv, .int .i64 c] w fun e w' => e = badE ∧ w' = w := by
  obtain ⟨sb, sc, s0, _, s2, _⟩ := h.fields
  have hH1 := h.has f
  by_cases hf : hasR N f
  rotate_left
  · rw [Bool.eq_false_iff.2 (fun h => hf ((hasN_iff N rfl).1 h))] at hH1
    have H1 := hide hH1
    clear h hb hH1 hf s2
    go_enter Try.func43, Try.ntmps43
    go_wp2_with (go_at_call 52; refine H1.out.mono ?_; rintro e w1 ⟨rfl, hw1⟩; have hw2 := hw1.symm; clear hw1; subst hw2)
    go_ret2
    exact ⟨rfl, rfl⟩
  rw [(hasN_iff N rfl).2 hf] at hH1
  have H1 := hide hH1
  by_cases h0 : lv < 0
  · clear s2 h hb hH1 hf
    go_enter Try.func43, Try.ntmps43
    go_wp2_with (go_at_call 52; refine H1.out.mono ?_; rintro e w1 ⟨rfl, hw1⟩; have hw2 := hw1.symm; clear hw1; subst hw2)
    go_ret2
    exact ⟨rfl, rfl⟩
  by_cases h1 : (S.length : Int) ≤ lv
  · clear s2 h hb hH1 hf
    go_enter Try.func43, Try.ntmps43
    go_wp2_with (go_at_call 52; refine H1.out.mono ?_; rintro e w1 ⟨rfl, hw1⟩; have hw2 := hw1.symm; clear hw1; subst hw2)
    go_ret2
    exact ⟨rfl, rfl⟩
  by_cases hc : c < 0
  · clear s2 h hb hH1 hf
    go_enter Try.func43, Try.ntmps43
    go_wp2_with (go_at_call 52; refine H1.out.mono ?_; rintro e w1 ⟨rfl, hw1⟩; have hw2 := hw1.symm; clear hw1; subst hw2)
    go_ret2
    exact ⟨rfl, rfl⟩
  obtain ⟨l, rfl⟩ : ∃ l : Nat, lv = (l : Int) := ⟨lv.toNat, by omega⟩
  have hl : l < S.length := by omega
  have q := s2.cell hl
  have e : szL S (l : Int) = S.getD l 0 := by unfold szL; rw [if_pos (by omega), Int.toNat_natCast]
  rw [e] at hb
  generalize S.getD l 0 = s at *
  have h2 : s ≤ c := by
    rcases Int.lt_or_le c s with h3 | h3
    · exact absurd ⟨hf, by omega, h3⟩ hb
    · exact h3
  have hl1 : (l : Int) < (S.length : Int) := by omega
  have h1' : ¬ S.length ≤ l := by omega
  clear s2 h hb e hH1 hf
  go_enter Try.func43, Try.ntmps43
  go_wp2_with (go_at_call 52; refine H1.out.mono ?_; rintro e w1 ⟨rfl, hw1⟩; have hw2 := hw1.symm; clear hw1; subst hw2)
  go_ret2
  exact ⟨rfl, rfl⟩
set_option maxRecDepth 100000 in
set_option maxHeartbeats 4000000 in
theorem cut_bad (h : CA w a S M N m P) (hbad : ¬ (hasR N f ∧ 0 ≤ c ∧ c < szL S lv)) :
    Calls Try.prog 26 #[.pointer (some ⟨a, 0, none⟩), .int .i64 f, .int .i64 lv, .int .i64 c] w fun e w' => e = badE ∧ Below w.heap.size w w' := by
  obtain ⟨y1, nb1, nb2⟩ := two_box w (.int .i64 lv) (.int .i64 c) 3
  have HH := hide h
  have X1 := hide y1
  have HB := hide hbad
  clear h y1 hbad
  go_enter Try.func26, Try.ntmps26
  go_upto_region 1 with fail
  have H1 := hide (HH.out.below X1.out)
  refine wp_unt (S := fun V => V.heap[w.heap.size]? = some (.cells #[.int .i64 lv] 3 (0, 0)) ∧ V.heap[w.heap.size + 1]? = some (.cells #[.int .i64 c] 3 (0, 0))) 15 (by kernel_rfl) ?_
  generalize ((w.alloc (.cells #[.int .i64 lv] 3)).alloc (.cells #[.int .i64 c] 3)).drew = w1 at *
  have XW : Hid (Below w.heap.size w w1) := X1.out
  generalize hcb : w.heap.size + 1 = cb at nb1 nb2 ⊢
  generalize hlb : w.heap.size = lb at nb1 nb2 ⊢
  clear hlb hcb X1
  have hcell : ∀ V : World, V.heap[lb]? = some (.cells #[.int .i64 lv] 3 (0, 0)) ∧ V.heap[cb]? = some (.cells #[.int .i64 c] 3 (0, 0)) → V.cell? ⟨lb, 0, none⟩ = some (.int .i64 lv) ∧ V.cell? ⟨cb, 0, none⟩ = some (.int .i64 c) := fun V hV => ⟨by rw [cell_of_row V lb _ _ _ _ hV.1]; rfl, by rw [cell_of_row V cb _ _ _ _ hV.2]; rfl⟩
  have HC := hide hcell
  clear hcell
  have hS1 : w1.heap[lb]? = some (.cells #[.int .i64 lv] 3 (0, 0)) ∧ w1.heap[cb]? = some (.cells #[.int .i64 c] 3 (0, 0)) := ⟨nb1, nb2⟩
  clear nb1 nb2
  refine UntH.take (i := 0) (some 11) rfl rfl (by kernel_rfl) (by kernel_rfl) (by kernel_rfl) (by kernel_rfl) (fun _ _ _ _ h => h) (by rfl) hS1 ?_
  apply Exists.intro
  refine ⟨fun w' hw' => ?_, ?_⟩
  · (obtain ⟨q0, q1⟩ := HC.out w' hw')
    go_simp
    first | done | rfl
  try simp only [Act.put, List.setIfInBounds_toArray, List.set_cons_zero, List.set_cons_succ]
  refine UntH.take (i := 1) (some 12) rfl rfl (by kernel_rfl) (by kernel_rfl) (by kernel_rfl) (by kernel_rfl) (fun _ _ _ _ h => h) (by rfl) hS1 ?_
  apply Exists.intro
  refine ⟨fun w' hw' => ?_, ?_⟩
  · (obtain ⟨q0, q1⟩ := HC.out w' hw')
    go_simp
    first | done | rfl
  try simp only [Act.put, List.setIfInBounds_toArray, List.set_cons_zero, List.set_cons_succ]
  have y2 : Below w1.heap.size w1 (w1.alloc (.cells #[.int .i64 f] 3)) := al (Below.refl _ _) _
  have AT := hide (areThere_any (some ⟨w1.heap.size, 0, none⟩) 1 [f] (by simp) (zat_new w1 [f]) (H1.out.below y2))
  have SK : Hid (∀ V W, V.heap[lb]? = some (.cells #[.int .i64 lv] 3 (0, 0)) ∧ V.heap[cb]? = some (.cells #[.int .i64 c] 3 (0, 0)) → Below V.heap.size V W → W.heap[lb]? = some (.cells #[.int .i64 lv] 3 (0, 0)) ∧ W.heap[cb]? = some (.cells #[.int .i64 c] 3 (0, 0))) := fun V W hV y => ⟨(y.block _ (lt_of_block hV.1)).trans hV.1, (y.block _ (lt_of_block hV.2)).trans hV.2⟩
  have hS2 := SK.out _ _ hS1 y2
  have X2 := hide (bt XW.out y2 (Nat.le_refl _))
  have H2 := hide (H1.out.below y2)
  clear y2
  refine UntH.step (i := 2) (by kernel_rfl) rfl (fun K hK => ?_)
  go_simp
  refine hK _ _ hS2 ?_
  clear hK K hS1
  refine UntH.step (i := 3) (by kernel_rfl) rfl (fun K hK => ?_)
  go_simp
  refine AT.out.mono ?_
  rintro e w3 ⟨⟨b, rfl, hb⟩, x3⟩
  have hS3 := SK.out _ _ hS2 x3
  have X3 := hide (bt X2.out x3 (Nat.le_refl _))
  have H3 := hide (H2.out.below x3)
  have HBT : Hid (b = true ↔ hasR N f) := ⟨fun h => hb.1 h f (by simp), fun h => hb.2 (by intro z hz; simp at hz; rw [hz]; exact h)⟩
  clear hb x3 AT
  go_simp
  refine hK _ _ hS3 ?_
  clear hK K hS2 X2 H2 H1 XW
  by_cases hf : hasR N f
  rotate_left
  · have hbt : b = false := Bool.eq_false_iff.2 (fun h => hf (HBT.out.1 h))
    subst hbt
    clear HBT hf
    refine UntH.take (i := 4) (some 15) rfl rfl (by kernel_rfl) (by kernel_rfl) (by kernel_rfl) (by kernel_rfl) (fun _ _ _ _ h => h) (by rfl) hS3 ?_
    apply Exists.intro
    refine ⟨fun w' hw' => ?_, ?_⟩
    · (obtain ⟨q0, q1⟩ := HC.out w' hw')
      go_simp
      first | done | rfl
    try simp only [Act.put, List.setIfInBounds_toArray, List.set_cons_zero, List.set_cons_succ]
    refine UntH.take (i := 5) (some 16) rfl rfl (by kernel_rfl) (by kernel_rfl) (by kernel_rfl) (by kernel_rfl) (fun _ _ _ _ h => h) (by rfl) hS3 ?_
    apply Exists.intro
    refine ⟨fun w' hw' => ?_, ?_⟩
    · (obtain ⟨q0, q1⟩ := HC.out w' hw')
      go_simp
      first | done | rfl
    try simp only [Act.put, List.setIfInBounds_toArray, List.set_cons_zero, List.set_cons_succ]
    refine UntH.skip (i := 6) (some 17) rfl rfl (by kernel_rfl) (by kernel_rfl) (by kernel_rfl) (by kernel_rfl) (fun _ _ _ _ h => h) (by rfl) hS3 ?_
    try simp only [Act.put, List.setIfInBounds_toArray, List.set_cons_zero, List.set_cons_succ]
    refine UntH.skip (i := 7) (some 18) rfl rfl (by kernel_rfl) (by kernel_rfl) (by kernel_rfl) (by kernel_rfl) (fun _ _ _ _ h => h) (by rfl) hS3 ?_
    try simp only [Act.put, List.setIfInBounds_toArray, List.set_cons_zero, List.set_cons_succ]
    refine UntH.take (i := 8) (some 19) rfl rfl (by kernel_rfl) (by kernel_rfl) (by kernel_rfl) (by kernel_rfl) (fun _ _ _ _ h => h) (by rfl) hS3 ?_
    apply Exists.intro
    refine ⟨fun w' hw' => ?_, ?_⟩
    · (obtain ⟨q0, q1⟩ := HC.out w' hw')
      go_simp
      first | done | rfl
    try simp only [Act.put, List.setIfInBounds_toArray, List.set_cons_zero, List.set_cons_succ]
    refine UntH.take (i := 9) (some 20) rfl rfl (by kernel_rfl) (by kernel_rfl) (by kernel_rfl) (by kernel_rfl) (fun _ _ _ _ h => h) (by rfl) hS3 ?_
    apply Exists.intro
    refine ⟨fun w' hw' => ?_, ?_⟩
    · (obtain ⟨q0, q1⟩ := HC.out w' hw')
      go_simp
      first | done | rfl
    try simp only [Act.put, List.setIfInBounds_toArray, List.set_cons_zero, List.set_cons_succ]
    refine UntH.skip (i := 10) (some 21) rfl rfl (by kernel_rfl) (by kernel_rfl) (by kernel_rfl) (by kernel_rfl) (fun _ _ _ _ h => h) (by rfl) hS3 ?_
    try simp only [Act.put, List.setIfInBounds_toArray, List.set_cons_zero, List.set_cons_succ]
    refine UntH.skip (i := 11) (some 22) rfl rfl (by kernel_rfl) (by kernel_rfl) (by kernel_rfl) (by kernel_rfl) (fun _ _ _ _ h => h) (by rfl) hS3 ?_
    try simp only [Act.put, List.setIfInBounds_toArray, List.set_cons_zero, List.set_cons_succ]
    refine UntH.skip (i := 12) (some 23) rfl rfl (by kernel_rfl) (by kernel_rfl) (by kernel_rfl) (by kernel_rfl) (fun _ _ _ _ h => h) (by rfl) hS3 ?_
    try simp only [Act.put, List.setIfInBounds_toArray, List.set_cons_zero, List.set_cons_succ]
    refine UntH.step (i := 13) (by kernel_rfl) rfl (fun K hK => ?_)
    go_simp
    refine hK _ _ hS3 ?_
    clear hK K
    refine UntH.skip (i := 14) (some 25) rfl rfl (by kernel_rfl) (by kernel_rfl) (by kernel_rfl) (by kernel_rfl) (fun _ _ _ _ h => h) (by rfl) hS3 ?_
    try simp only [Act.put, List.setIfInBounds_toArray, List.set_cons_zero, List.set_cons_succ]
    refine UntH.last (by kernel_rfl) rfl (by kernel_rfl) (by kernel_rfl) (fun K hK => ?_)
    go_simp
    refine hK _ _ ?_
    clear hK K
    go_wp2
    go_ret2
    exact ⟨rfl, X3.out⟩
  have hbt : b = true := HBT.out.2 hf
  subst hbt
  by_cases hc : c < 0
  · clear HBT hf
    refine UntH.take (i := 4) (some 15) rfl rfl (by kernel_rfl) (by kernel_rfl) (by kernel_rfl) (by kernel_rfl) (fun _ _ _ _ h => h) (by rfl) hS3 ?_
    apply Exists.intro
    refine ⟨fun w' hw' => ?_, ?_⟩
    · (obtain ⟨q0, q1⟩ := HC.out w' hw')
      go_simp
      first | done | rfl
    try simp only [Act.put, List.setIfInBounds_toArray, List.set_cons_zero, List.set_cons_succ]
    refine UntH.take (i := 5) (some 16) rfl rfl (by kernel_rfl) (by kernel_rfl) (by kernel_rfl) (by kernel_rfl) (fun _ _ _ _ h => h) (by rfl) hS3 ?_
    apply Exists.intro
    refine ⟨fun w' hw' => ?_, ?_⟩
    · (obtain ⟨q0, q1⟩ := HC.out w' hw')
      go_simp
      first | done | rfl
    try simp only [Act.put, List.setIfInBounds_toArray, List.set_cons_zero, List.set_cons_succ]
    refine UntH.take (i := 6) (some 17) rfl rfl (by kernel_rfl) (by kernel_rfl) (by kernel_rfl) (by kernel_rfl) (fun _ _ _ _ h => h) (by rfl) hS3 ?_
    apply Exists.intro
    refine ⟨fun w' hw' => ?_, ?_⟩
    · (obtain ⟨q0, q1⟩ := HC.out w' hw')
      go_simp
      first | done | rfl
    try simp only [Act.put, List.setIfInBounds_toArray, List.set_cons_zero, List.set_cons_succ]
    refine UntH.take (i := 7) (some 18) rfl rfl (by kernel_rfl) (by kernel_rfl) (by kernel_rfl) (by kernel_rfl) (fun _ _ _ _ h => h) (by rfl) hS3 ?_
    apply Exists.intro
    refine ⟨fun w' hw' => ?_, ?_⟩
    · (obtain ⟨q0, q1⟩ := HC.out w' hw')
      go_simp
      first | done | rfl
    try simp only [Act.put, List.setIfInBounds_toArray, List.set_cons_zero, List.set_cons_succ]
    refine UntH.take (i := 8) (some 19) rfl rfl (by kernel_rfl) (by kernel_rfl) (by kernel_rfl) (by kernel_rfl) (fun _ _ _ _ h => h) (by rfl) hS3 ?_
    apply Exists.intro
    refine ⟨fun w' hw' => ?_, ?_⟩
    · (obtain ⟨q0, q1⟩ := HC.out w' hw')
      go_simp
      first | done | rfl
    try simp only [Act.put, List.setIfInBounds_toArray, List.set_cons_zero, List.set_cons_succ]
    refine UntH.take (i := 9) (some 20) rfl rfl (by kernel_rfl) (by kernel_rfl) (by kernel_rfl) (by kernel_rfl) (fun _ _ _ _ h => h) (by rfl) hS3 ?_
    apply Exists.intro
    refine ⟨fun w' hw' => ?_, ?_⟩
    · (obtain ⟨q0, q1⟩ := HC.out w' hw')
      go_simp
      first | done | rfl
    try simp only [Act.put, List.setIfInBounds_toArray, List.set_cons_zero, List.set_cons_succ]
    refine UntH.skip (i := 10) (some 21) rfl rfl (by kernel_rfl) (by kernel_rfl) (by kernel_rfl) (by kernel_rfl) (fun _ _ _ _ h => h) (by rfl) hS3 ?_
    try simp only [Act.put, List.setIfInBounds_toArray, List.set_cons_zero, List.set_cons_succ]
    refine UntH.skip (i := 11) (some 22) rfl rfl (by kernel_rfl) (by kernel_rfl) (by kernel_rfl) (by kernel_rfl) (fun _ _ _ _ h => h) (by rfl) hS3 ?_
    try simp only [Act.put, List.setIfInBounds_toArray, List.set_cons_zero, List.set_cons_succ]
    refine UntH.skip (i := 12) (some 23) rfl rfl (by kernel_rfl) (by kernel_rfl) (by kernel_rfl) (by kernel_rfl) (fun _ _ _ _ h => h) (by rfl) hS3 ?_
    try simp only [Act.put, List.setIfInBounds_toArray, List.set_cons_zero, List.set_cons_succ]
    refine UntH.step (i := 13) (by kernel_rfl) rfl (fun K hK => ?_)
    go_simp
    refine hK _ _ hS3 ?_
    clear hK K
    refine UntH.skip (i := 14) (some 25) rfl rfl (by kernel_rfl) (by kernel_rfl) (by kernel_rfl) (by kernel_rfl) (fun _ _ _ _ h => h) (by rfl) hS3 ?_
    try simp only [Act.put, List.setIfInBounds_toArray, List.set_cons_zero, List.set_cons_succ]
    refine UntH.last (by kernel_rfl) rfl (by kernel_rfl) (by kernel_rfl) (fun K hK => ?_)
    go_simp
    refine hK _ _ ?_
    clear hK K
    go_wp2
    go_ret2
    exact ⟨rfl, X3.out⟩
  have hge : szL S lv ≤ c := by
    rcases Int.lt_or_le c (szL S lv) with h1 | h1
    · exact absurd ⟨hf, by omega, h1⟩ HB.out
    · exact h1
  have SZ := hide (sizeOf_any lv H3.out)
  generalize szL S lv = s at *
  clear HBT hf
  refine UntH.take (i := 4) (some 15) rfl rfl (by kernel_rfl) (by kernel_rfl) (by kernel_rfl) (by kernel_rfl) (fun _ _ _ _ h => h) (by rfl) hS3 ?_
  apply Exists.intro
  refine ⟨fun w' hw' => ?_, ?_⟩
  · (obtain ⟨q0, q1⟩ := HC.out w' hw')
    go_simp
    first | done | rfl
  try simp only [Act.put, List.setIfInBounds_toArray, List.set_cons_zero, List.set_cons_succ]
  refine UntH.take (i := 5) (some 16) rfl rfl (by kernel_rfl) (by kernel_rfl) (by kernel_rfl) (by kernel_rfl) (fun _ _ _ _ h => h) (by rfl) hS3 ?_
  apply Exists.intro
  refine ⟨fun w' hw' => ?_, ?_⟩
  · (obtain ⟨q0, q1⟩ := HC.out w' hw')
    go_simp
    first | done | rfl
  try simp only [Act.put, List.setIfInBounds_toArray, List.set_cons_zero, List.set_cons_succ]
  refine UntH.take (i := 6) (some 17) rfl rfl (by kernel_rfl) (by kernel_rfl) (by kernel_rfl) (by kernel_rfl) (fun _ _ _ _ h => h) (by rfl) hS3 ?_
  apply Exists.intro
  refine ⟨fun w' hw' => ?_, ?_⟩
  · (obtain ⟨q0, q1⟩ := HC.out w' hw')
    go_simp
    first | done | rfl
  try simp only [Act.put, List.setIfInBounds_toArray, List.set_cons_zero, List.set_cons_succ]
  refine UntH.take (i := 7) (some 18) rfl rfl (by kernel_rfl) (by kernel_rfl) (by kernel_rfl) (by kernel_rfl) (fun _ _ _ _ h => h) (by rfl) hS3 ?_
  apply Exists.intro
  refine ⟨fun w' hw' => ?_, ?_⟩
  · (obtain ⟨q0, q1⟩ := HC.out w' hw')
    go_simp
    first | done | rfl
  try simp only [Act.put, List.setIfInBounds_toArray, List.set_cons_zero, List.set_cons_succ]
  refine UntH.take (i := 8) (some 19) rfl rfl (by kernel_rfl) (by kernel_rfl) (by kernel_rfl) (by kernel_rfl) (fun _ _ _ _ h => h) (by rfl) hS3 ?_
  apply Exists.intro
  refine ⟨fun w' hw' => ?_, ?_⟩
  · (obtain ⟨q0, q1⟩ := HC.out w' hw')
    go_simp
    first | done | rfl
  try simp only [Act.put, List.setIfInBounds_toArray, List.set_cons_zero, List.set_cons_succ]
  refine UntH.take (i := 9) (some 20) rfl rfl (by kernel_rfl) (by kernel_rfl) (by kernel_rfl) (by kernel_rfl) (fun _ _ _ _ h => h) (by rfl) hS3 ?_
  apply Exists.intro
  refine ⟨fun w' hw' => ?_, ?_⟩
  · (obtain ⟨q0, q1⟩ := HC.out w' hw')
    go_simp
    first | done | rfl
  try simp only [Act.put, List.setIfInBounds_toArray, List.set_cons_zero, List.set_cons_succ]
  refine UntH.take (i := 10) (some 21) rfl rfl (by kernel_rfl) (by kernel_rfl) (by kernel_rfl) (by kernel_rfl) (fun _ _ _ _ h => h) (by rfl) hS3 ?_
  apply Exists.intro
  refine ⟨fun w' hw' => ?_, ?_⟩
  · (obtain ⟨q0, q1⟩ := HC.out w' hw')
    go_simp
    first | done | rfl
  try simp only [Act.put, List.setIfInBounds_toArray, List.set_cons_zero, List.set_cons_succ]
  refine UntH.take (i := 11) (some 22) rfl rfl (by kernel_rfl) (by kernel_rfl) (by kernel_rfl) (by kernel_rfl) (fun _ _ _ _ h => h) (by rfl) hS3 ?_
  apply Exists.intro
  refine ⟨fun w' hw' => ?_, ?_⟩
  · (obtain ⟨q0, q1⟩ := HC.out w' hw')
    go_simp
    first | done | rfl
  try simp only [Act.put, List.setIfInBounds_toArray, List.set_cons_zero, List.set_cons_succ]
  refine UntH.take (i := 12) (some 23) rfl rfl (by kernel_rfl) (by kernel_rfl) (by kernel_rfl) (by kernel_rfl) (fun _ _ _ _ h => h) (by rfl) hS3 ?_
  apply Exists.intro
  refine ⟨fun w' hw' => ?_, ?_⟩
  · (obtain ⟨q0, q1⟩ := HC.out w' hw')
    go_simp
    first | done | rfl
  try simp only [Act.put, List.setIfInBounds_toArray, List.set_cons_zero, List.set_cons_succ]
  refine UntH.step (i := 13) (by kernel_rfl) rfl (fun K hK => ?_)
  go_simp
  refine SZ.out.mono ?_
  rintro e w4 ⟨rfl, x4⟩
  have hS4 := SK.out _ _ hS3 x4
  have X4 := hide (bt X3.out x4 (Nat.le_refl _))
  clear x4
  go_simp
  refine hK _ _ hS4 ?_
  clear hK K hS3 SZ
  refine UntH.take (i := 14) (some 25) rfl rfl (by kernel_rfl) (by kernel_rfl) (by kernel_rfl) (by kernel_rfl) (fun _ _ _ _ h => h) (by rfl) hS4 ?_
  apply Exists.intro
  refine ⟨fun w' hw' => ?_, ?_⟩
  · (obtain ⟨q0, q1⟩ := HC.out w' hw')
    go_simp
    first | done | rfl
  try simp only [Act.put, List.setIfInBounds_toArray, List.set_cons_zero, List.set_cons_succ]
  refine UntH.last (by kernel_rfl) rfl (by kernel_rfl) (by kernel_rfl) (fun K hK => ?_)
  go_simp
  refine hK _ _ ?_
  clear hK K
  go_wp2
  go_ret2
  exact ⟨rfl, X4.out⟩
end
end Go.Proofs.Ytaafeflbanoncaa
