/-
  Eval of any refs and classes, in both arenas; Path of a ref that is not there. Condition: lists no longer than a process can hold.
-/
import Derived.Test.YtaafeflbanoncaaP42
import Derived.Test.YtaafeflbanoncaaP40
namespace Go.Proofs.Ytaafeflbanoncaa
open Go.RowKit Go.Lib Go.Maps

/-- What Eval answers. -/
noncomputable def evG (S : List Int) (N : List Nd) (f : Int) (A : List Int) : Bool × Int := by
  classical
  exact if hasR N f ∧ PtL S A then (sayR N (ptf A) f, 0) else (false, 1)
theorem evG_ok {S : List Int} {N : List Nd} {f : Int} {A : List Int} (h1 : hasR N f) (h2 : PtL S A) : evG S N f A = (sayR N (ptf A) f, 0) := by unfold evG; rw [if_pos ⟨h1, h2⟩]
theorem evG_bad {S : List Int} {N : List Nd} {f : Int} {A : List Int} (h : ¬ (hasR N f ∧ PtL S A)) : evG S N f A = (false, 1) := by unfold evG; rw [if_neg h]
section
variable {w : World} {a x m : Nat} {S : List Int} {M : Int} {N : List Nd} {P Q : Nat → Prop} {f : Int}
set_option maxRecDepth 100000 in
set_option maxHeartbeats 1000000 in
theorem isPoint_bad (ao : Option Addr) (cap : Nat) (A : List Int) (hA : ¬ PtL S A) (hz : ZAt w ao A) (h : CA w a S M N m P) :
    Calls Try.prog 67 #[.pointer (some ⟨a, 0, none⟩), .slice ao A.length cap] w fun e w' => e = .returned (.bool false) ∧ Below w.heap.size w w' := by
  have HS := hide h.sizes
  have hs12 := h.ok.sz.le
  have HP := hide hA
  have HZ := hide hz
  clear h hz hA
  by_cases hlen : A.length = S.length
  rotate_left
  · have h1 : ¬ (A.length : Int) = (S.length : Int) := by omega
    have h2 : ((A.length : Int) == (S.length : Int)) = false := beq_eq_false_iff_ne.2 h1
    go_enter Try.func67, Try.ntmps67
    go_wp2_with (go_at_call 49; refine HS.out.mono ?_; rintro e w1 ⟨⟨g, c, rfl, o1, z1, l1⟩, x1⟩; have X1 := hide x1; clear o1 z1 l1 x1)
    go_ret
    exact ⟨rfl, X1.out⟩
  have HL := hide hlen
  rw [← hlen] at HS hs12
  clear hlen
  go_enter Try.func67, Try.ntmps67
  go_upto_region 2 with (go_at_call 49; refine HS.out.mono ?_; rintro e w1 ⟨⟨g, c, rfl, o1, z1, l1⟩, x1⟩; have X1 := hide x1; have Z1 := hide z1; clear o1 z1 l1 x1)
  clear HS
  go_wp2
  go_loopw [17] (fun x wr => ∃ k : Nat, k ≤ A.length ∧ x = .int .i64 k ∧ Hid (∀ i, i < k → 0 ≤ A.getD i 0 ∧ A.getD i 0 < S.getD i 0) ∧ Hid (Below w1.heap.size w1 wr)) (fun x _ => A.length - (RowKit.intOf x).toNat)
  case atStart => exact ⟨0, Nat.zero_le _, rfl, hide (fun i hi => by omega), Below.refl _ _⟩
  case round =>
    obtain ⟨k, hk, rfl, HE, HQ⟩ := hrel
    by_cases hlt : k < A.length
    · have hlt' : (k : Int) < A.length := by omega
      obtain ⟨b1, o1, rfl, hb1, g1⟩ := (HZ.out.below X1.out).get hlt
      have q1 := (HQ.out.cell (p := ⟨b1, o1 + k, none⟩) hb1).trans g1
      have q2 := (Z1.out.below HQ.out).cell (i := k) (by rw [← HL.out]; exact hlt)
      have FINB := hide (bt X1.out HQ.out (Nat.le_refl _))
      have NX : Hid (0 ≤ A.getD k 0 → A.getD k 0 < S.getD k 0 → ∀ i, i < k + 1 → 0 ≤ A.getD i 0 ∧ A.getD i 0 < S.getD i 0) := fun h1 h2 i hi => by
        by_cases e : i < k
        · exact HE.out i e
        · obtain rfl : i = k := by omega
          exact ⟨h1, h2⟩
      clear g1 hb1
      generalize A.getD k 0 = x at *
      generalize S.getD k 0 = y at *
      by_cases p0 : x < 0
      · go_wp2
        go_ret
        exact ⟨rfl, FINB.out⟩
      by_cases p1 : y ≤ x
      · go_wp2
        go_ret
        exact ⟨rfl, FINB.out⟩
      have NX2 := hide (NX.out (by omega) (by omega))
      clear NX HE
      go_wp2
      go_roundw
      case rel => exact ⟨k + 1, by omega, by go_num, NX2, HQ⟩
      case measure => simp [RowKit.intOf]; omega
    · exact absurd ⟨HL.out, fun i hi => HE.out i (by omega)⟩ HP.out
set_option maxRecDepth 100000 in
theorem eval_any {ao : Option Addr} {cap : Nat} {A : List Int} (h : CA w a S M N m P) (hz : ZAt w ao A) :
    Calls Try.prog 31 #[.pointer (some ⟨a, 0, none⟩), .int .i64 f, .slice ao A.length cap] w fun e w' => e = .returned (.tuple #[.bool (evG S N f A).1, .int .i64 (evG S N f A).2]) ∧ Below w.heap.size w w' := by
  by_cases hf : hasR N f
  · by_cases hA : PtL S A
    · rw [evG_ok hf hA]
      exact eval_ok h hf hA hz
    · rw [evG_bad (fun h => hA h.2)]
      have y1 : Below w.heap.size w (w.alloc (.cells #[.int .i64 f] 3)) := al (Below.refl _ _) _
      have X1 := hide y1
      have AT := hide (areThere_any (some ⟨w.heap.size, 0, none⟩) 1 [f] (by simp) (zat_new w [f]) (h.below y1))
      have IP := hide (fun W (x : Below w.heap.size w W) => isPoint_bad ao cap A hA (hz.below x) (h.below x))
      have HF := hide hf
      clear h hf hA hz y1
      go_enter Try.func31, Try.ntmps31
      go_wp2_with (first
        | (go_at_call 59; refine AT.out.mono ?_; rintro e w1 ⟨⟨b, rfl, hb⟩, x1⟩; have hbt := hb.2 (by intro z hz; simp at hz; rw [hz]; exact HF.out); subst hbt; have X2 := hide (bt X1.out x1 (Nat.le_refl _)); clear hb x1)
        | (go_at_call 67; refine (IP.out _ X2.out).mono ?_; rintro e w2 ⟨rfl, x2⟩; have X3 := hide (bt X2.out x2 (Nat.le_refl _)); clear x2))
      go_ret2
      exact ⟨rfl, X3.out⟩
  · rw [evG_bad (fun h => hf h.1)]
    have y1 : Below w.heap.size w (w.alloc (.cells #[.int .i64 f] 3)) := al (Below.refl _ _) _
    have X1 := hide y1
    have AT := hide (areThere_any (some ⟨w.heap.size, 0, none⟩) 1 [f] (by simp) (zat_new w [f]) (h.below y1))
    have HF := hide hf
    clear h hf hz y1
    go_enter Try.func31, Try.ntmps31
    go_wp2_with (go_at_call 59; refine AT.out.mono ?_; rintro e w1 ⟨⟨b, rfl, hb⟩, x1⟩; have hbt : b = false := (by cases b with | false => rfl | true => exact absurd (hb.1 rfl f (by simp)) HF.out); subst hbt; have X2 := hide (bt X1.out x1 (Nat.le_refl _)); clear hb x1)
    go_ret2
    exact ⟨rfl, X2.out⟩
set_option maxRecDepth 100000 in
theorem path_bad (h : CA w a S M N m P) (hf : ¬ hasR N f) : Calls Try.prog 27 #[.pointer (some ⟨a, 0, none⟩), .int .i64 f] w fun e w' => e = .returned (.tuple #[.slice none 0 0, .bool false, .int .i64 1]) ∧ Below w.heap.size w w' := by
  have y1 : Below w.heap.size w (w.alloc (.cells #[.int .i64 f] 3)) := al (Below.refl _ _) _
  have X1 := hide y1
  have AT := hide (areThere_any (some ⟨w.heap.size, 0, none⟩) 1 [f] (by simp) (zat_new w [f]) (h.below y1))
  have HF := hide hf
  clear h y1 hf
  go_enter Try.func27, Try.ntmps27
  go_wp2_with (go_at_call 59; refine AT.out.mono ?_; rintro e w1 ⟨⟨b, rfl, hb⟩, x1⟩; have hbt : b = false := (by cases b with | false => rfl | true => exact absurd (hb.1 rfl f (by simp)) HF.out); subst hbt; have X2 := hide (bt X1.out x1 (Nat.le_refl _)); clear hb x1)
  go_ret3
  exact ⟨rfl, X2.out⟩
set_option maxRecDepth 100000 in
set_option maxHeartbeats 4000000 in
theorem evalD_any {ao : Option Addr} {cap : Nat} {A : List Int} (h : RA w x S M N Q) (hz : ZAt w ao A) (hl : A.length ≤ 17592186043904) :
    Calls Try.prog 32 #[.pointer (some ⟨x, 0, none⟩), .int .i64 f, .slice ao A.length cap] w fun e w' => e = .returned (.tuple #[.bool (evG S N f A).1, .int .i64 (evG S N f A).2]) ∧ Below w.heap.size w w' := by
  have hH1 := h.has f
  have hs12 := h.ok.sz.le
  obtain ⟨sb, sc, s0, _, s2, hxl⟩ := h.fields
  by_cases hf : hasR N f
  rotate_left
  · rw [evG_bad (fun h => hf h.1)]
    rw [Bool.eq_false_iff.2 (fun h => hf ((hasN_iff N rfl).1 h))] at hH1
    have H1 := hide hH1
    clear h hH1 hf s2 hz
    go_enter Try.func32, Try.ntmps32
    go_wp2_with (go_at_call 52; refine H1.out.mono ?_; rintro e w1 ⟨rfl, hw1⟩; have hw2 := hw1.symm; clear hw1; subst hw2)
    go_ret2
    exact ⟨rfl, Below.refl _ _⟩
  rw [(hasN_iff N rfl).2 hf] at hH1
  have H1 := hide hH1
  by_cases hlen : A.length = S.length
  rotate_left
  · rw [evG_bad (fun h => hlen h.2.len)]
    have h1 : ¬ (A.length : Int) = (S.length : Int) := by omega
    have h2 : ((A.length : Int) == (S.length : Int)) = false := beq_eq_false_iff_ne.2 h1
    clear h hH1 hf s2 hz hlen
    go_enter Try.func32, Try.ntmps32
    go_wp2_with (go_at_call 52; refine H1.out.mono ?_; rintro e w1 ⟨rfl, hw1⟩; have hw2 := hw1.symm; clear hw1; subst hw2)
    go_ret2
    exact ⟨rfl, Below.refl _ _⟩
  have HH := hide h
  have HF := hide hf
  have HZ := hide hz
  have HL := hide hlen
  have HS2 := hide s2
  have HS0 := hide s0
  have HXL := hide hxl
  rw [← hlen] at s0 hs12
  have hl12 : A.length ≤ 12 := hs12
  clear h hH1 hf s2 hz hlen hs12 hxl
  go_enter Try.func32, Try.ntmps32
  go_upto_block 0 with (go_at_call 52; refine H1.out.mono ?_; rintro e w1 ⟨rfl, hw1⟩; have hw2 := hw1.symm; clear hw1; subst hw2)
  clear H1 s0
  go_cut [] (fun wx => Hid (Below w.heap.size w wx) ∧ Hid (PtL S A))
  case first =>
    go_wp2
    go_loopw [9] (fun v wr => ∃ k : Nat, k ≤ A.length ∧ v = .int .i64 k ∧ Hid (∀ i, i < k → 0 ≤ A.getD i 0 ∧ A.getD i 0 < S.getD i 0) ∧ Hid (Below w.heap.size w wr)) (fun v _ => A.length - (RowKit.intOf v).toNat)
    case atStart => exact ⟨0, Nat.zero_le _, rfl, hide (fun i hi => by omega), hide (Below.refl _ _)⟩
    case round =>
      obtain ⟨k, hk, rfl, HE, HQ⟩ := hrel
      by_cases hlt : k < A.length
      · have hlt' : (k : Int) < (A.length : Int) := by omega
        have y8 : Hid (Below w.heap.size w wr.drew) := HQ.out.drew
        obtain ⟨b1, o1, rfl, hb1, g1⟩ := HZ.out.get hlt
        have q1 := (y8.out.cell (p := ⟨b1, o1 + k, none⟩) hb1).trans g1
        have q2 := (HS2.out.below y8.out).cell (i := k) (by rw [← HL.out]; exact hlt)
        have q3 := (y8.out.cell (p := ⟨x, 0, none⟩) HXL.out).trans HS0.out
        rw [← HL.out] at q3
        have BADP : Hid (¬ (0 ≤ A.getD k 0 ∧ A.getD k 0 < S.getD k 0) → evG S N f A = (false, 1)) := fun h1 => evG_bad (fun h2 => h1 (h2.2.each k hlt))
        have NX : Hid (0 ≤ A.getD k 0 → A.getD k 0 < S.getD k 0 → ∀ i, i < k + 1 → 0 ≤ A.getD i 0 ∧ A.getD i 0 < S.getD i 0) := fun h1 h2 i hi => by
          by_cases e : i < k
          · exact HE.out i e
          · obtain rfl : i = k := by omega
            exact ⟨h1, h2⟩
        clear g1 hb1
        generalize A.getD k 0 = av at *
        generalize S.getD k 0 = sv at *
        by_cases p0 : av < 0
        · have EB := hide (BADP.out (by omega))
          go_upto_region 7 with fail
          refine wp_unt (S := fun V => V = wr.drew) 18 (by kernel_rfl) ?_
          generalize wr.drew = w4 at *
          refine UntH.take (i := 0) (some 31) rfl rfl (by kernel_rfl) (by kernel_rfl) (by kernel_rfl) (by kernel_rfl) (fun _ _ _ _ h => h) (by rfl) rfl ?_
          apply Exists.intro
          refine ⟨fun w' hw' => ?_, ?_⟩
          · subst hw'
            go_simp
            first | done | rfl
          try simp only [Act.put, List.setIfInBounds_toArray, List.set_cons_zero, List.set_cons_succ]
          refine UntH.take (i := 1) (some 32) rfl rfl (by kernel_rfl) (by kernel_rfl) (by kernel_rfl) (by kernel_rfl) (fun _ _ _ _ h => h) (by rfl) rfl ?_
          apply Exists.intro
          refine ⟨fun w' hw' => ?_, ?_⟩
          · subst hw'
            go_simp
            first | done | rfl
          try simp only [Act.put, List.setIfInBounds_toArray, List.set_cons_zero, List.set_cons_succ]
          refine UntH.take (i := 2) (some 33) rfl rfl (by kernel_rfl) (by kernel_rfl) (by kernel_rfl) (by kernel_rfl) (fun _ _ _ _ h => h) (by rfl) rfl ?_
          apply Exists.intro
          refine ⟨fun w' hw' => ?_, ?_⟩
          · subst hw'
            go_simp
            first | done | rfl
          try simp only [Act.put, List.setIfInBounds_toArray, List.set_cons_zero, List.set_cons_succ]
          refine UntH.take (i := 3) (some 34) rfl rfl (by kernel_rfl) (by kernel_rfl) (by kernel_rfl) (by kernel_rfl) (fun _ _ _ _ h => h) (by rfl) rfl ?_
          apply Exists.intro
          refine ⟨fun w' hw' => ?_, ?_⟩
          · subst hw'
            go_simp
            first | done | rfl
          try simp only [Act.put, List.setIfInBounds_toArray, List.set_cons_zero, List.set_cons_succ]
          refine UntH.take (i := 4) (some 35) rfl rfl (by kernel_rfl) (by kernel_rfl) (by kernel_rfl) (by kernel_rfl) (fun _ _ _ _ h => h) (by rfl) rfl ?_
          apply Exists.intro
          refine ⟨fun w' hw' => ?_, ?_⟩
          · subst hw'
            go_simp
            first | done | rfl
          try simp only [Act.put, List.setIfInBounds_toArray, List.set_cons_zero, List.set_cons_succ]
          refine UntH.take (i := 5) (some 36) rfl rfl (by kernel_rfl) (by kernel_rfl) (by kernel_rfl) (by kernel_rfl) (fun _ _ _ _ h => h) (by rfl) rfl ?_
          apply Exists.intro
          refine ⟨fun w' hw' => ?_, ?_⟩
          · subst hw'
            go_simp
            first | done | rfl
          try simp only [Act.put, List.setIfInBounds_toArray, List.set_cons_zero, List.set_cons_succ]
          refine UntH.skip (i := 6) (some 37) rfl rfl (by kernel_rfl) (by kernel_rfl) (by kernel_rfl) (by kernel_rfl) (fun _ _ _ _ h => h) (by rfl) rfl ?_
          try simp only [Act.put, List.setIfInBounds_toArray, List.set_cons_zero, List.set_cons_succ]
          refine UntH.skip (i := 7) (some 38) rfl rfl (by kernel_rfl) (by kernel_rfl) (by kernel_rfl) (by kernel_rfl) (fun _ _ _ _ h => h) (by rfl) rfl ?_
          try simp only [Act.put, List.setIfInBounds_toArray, List.set_cons_zero, List.set_cons_succ]
          refine UntH.skip (i := 8) (some 39) rfl rfl (by kernel_rfl) (by kernel_rfl) (by kernel_rfl) (by kernel_rfl) (fun _ _ _ _ h => h) (by rfl) rfl ?_
          try simp only [Act.put, List.setIfInBounds_toArray, List.set_cons_zero, List.set_cons_succ]
          refine UntH.skip (i := 9) (some 40) rfl rfl (by kernel_rfl) (by kernel_rfl) (by kernel_rfl) (by kernel_rfl) (fun _ _ _ _ h => h) (by rfl) rfl ?_
          try simp only [Act.put, List.setIfInBounds_toArray, List.set_cons_zero, List.set_cons_succ]
          refine UntH.skip (i := 10) (some 41) rfl rfl (by kernel_rfl) (by kernel_rfl) (by kernel_rfl) (by kernel_rfl) (fun _ _ _ _ h => h) (by rfl) rfl ?_
          try simp only [Act.put, List.setIfInBounds_toArray, List.set_cons_zero, List.set_cons_succ]
          refine UntH.skip (i := 11) (some 42) rfl rfl (by kernel_rfl) (by kernel_rfl) (by kernel_rfl) (by kernel_rfl) (fun _ _ _ _ h => h) (by rfl) rfl ?_
          try simp only [Act.put, List.setIfInBounds_toArray, List.set_cons_zero, List.set_cons_succ]
          refine UntH.skip (i := 12) (some 43) rfl rfl (by kernel_rfl) (by kernel_rfl) (by kernel_rfl) (by kernel_rfl) (fun _ _ _ _ h => h) (by rfl) rfl ?_
          try simp only [Act.put, List.setIfInBounds_toArray, List.set_cons_zero, List.set_cons_succ]
          refine UntH.skip (i := 13) (some 44) rfl rfl (by kernel_rfl) (by kernel_rfl) (by kernel_rfl) (by kernel_rfl) (fun _ _ _ _ h => h) (by rfl) rfl ?_
          try simp only [Act.put, List.setIfInBounds_toArray, List.set_cons_zero, List.set_cons_succ]
          refine UntH.skip (i := 14) (some 45) rfl rfl (by kernel_rfl) (by kernel_rfl) (by kernel_rfl) (by kernel_rfl) (fun _ _ _ _ h => h) (by rfl) rfl ?_
          try simp only [Act.put, List.setIfInBounds_toArray, List.set_cons_zero, List.set_cons_succ]
          refine UntH.skip (i := 15) (some 46) rfl rfl (by kernel_rfl) (by kernel_rfl) (by kernel_rfl) (by kernel_rfl) (fun _ _ _ _ h => h) (by rfl) rfl ?_
          try simp only [Act.put, List.setIfInBounds_toArray, List.set_cons_zero, List.set_cons_succ]
          refine UntH.skip (i := 16) (some 47) rfl rfl (by kernel_rfl) (by kernel_rfl) (by kernel_rfl) (by kernel_rfl) (fun _ _ _ _ h => h) (by rfl) rfl ?_
          try simp only [Act.put, List.setIfInBounds_toArray, List.set_cons_zero, List.set_cons_succ]
          refine UntH.skip (i := 17) (some 48) rfl rfl (by kernel_rfl) (by kernel_rfl) (by kernel_rfl) (by kernel_rfl) (fun _ _ _ _ h => h) (by rfl) rfl ?_
          try simp only [Act.put, List.setIfInBounds_toArray, List.set_cons_zero, List.set_cons_succ]
          refine UntH.last (by kernel_rfl) rfl (by kernel_rfl) (by kernel_rfl) (fun K hK => ?_)
          go_simp
          refine hK _ _ ?_
          clear hK K q1 q2 q3
          go_wp2
          go_ret2
          rw [EB.out]
          exact ⟨rfl, y8.out⟩
        by_cases p1 : sv ≤ av
        · have EB := hide (BADP.out (by omega))
          go_upto_region 7 with fail
          refine wp_unt (S := fun V => V = wr.drew) 18 (by kernel_rfl) ?_
          generalize wr.drew = w4 at *
          refine UntH.take (i := 0) (some 31) rfl rfl (by kernel_rfl) (by kernel_rfl) (by kernel_rfl) (by kernel_rfl) (fun _ _ _ _ h => h) (by rfl) rfl ?_
          apply Exists.intro
          refine ⟨fun w' hw' => ?_, ?_⟩
          · subst hw'
            go_simp
            first | done | rfl
          try simp only [Act.put, List.setIfInBounds_toArray, List.set_cons_zero, List.set_cons_succ]
          refine UntH.take (i := 1) (some 32) rfl rfl (by kernel_rfl) (by kernel_rfl) (by kernel_rfl) (by kernel_rfl) (fun _ _ _ _ h => h) (by rfl) rfl ?_
          apply Exists.intro
          refine ⟨fun w' hw' => ?_, ?_⟩
          · subst hw'
            go_simp
            first | done | rfl
          try simp only [Act.put, List.setIfInBounds_toArray, List.set_cons_zero, List.set_cons_succ]
          refine UntH.take (i := 2) (some 33) rfl rfl (by kernel_rfl) (by kernel_rfl) (by kernel_rfl) (by kernel_rfl) (fun _ _ _ _ h => h) (by rfl) rfl ?_
          apply Exists.intro
          refine ⟨fun w' hw' => ?_, ?_⟩
          · subst hw'
            go_simp
            first | done | rfl
          try simp only [Act.put, List.setIfInBounds_toArray, List.set_cons_zero, List.set_cons_succ]
          refine UntH.take (i := 3) (some 34) rfl rfl (by kernel_rfl) (by kernel_rfl) (by kernel_rfl) (by kernel_rfl) (fun _ _ _ _ h => h) (by rfl) rfl ?_
          apply Exists.intro
          refine ⟨fun w' hw' => ?_, ?_⟩
          · subst hw'
            go_simp
            first | done | rfl
          try simp only [Act.put, List.setIfInBounds_toArray, List.set_cons_zero, List.set_cons_succ]
          refine UntH.take (i := 4) (some 35) rfl rfl (by kernel_rfl) (by kernel_rfl) (by kernel_rfl) (by kernel_rfl) (fun _ _ _ _ h => h) (by rfl) rfl ?_
          apply Exists.intro
          refine ⟨fun w' hw' => ?_, ?_⟩
          · subst hw'
            go_simp
            first | done | rfl
          try simp only [Act.put, List.setIfInBounds_toArray, List.set_cons_zero, List.set_cons_succ]
          refine UntH.take (i := 5) (some 36) rfl rfl (by kernel_rfl) (by kernel_rfl) (by kernel_rfl) (by kernel_rfl) (fun _ _ _ _ h => h) (by rfl) rfl ?_
          apply Exists.intro
          refine ⟨fun w' hw' => ?_, ?_⟩
          · subst hw'
            go_simp
            first | done | rfl
          try simp only [Act.put, List.setIfInBounds_toArray, List.set_cons_zero, List.set_cons_succ]
          refine UntH.take (i := 6) (some 37) rfl rfl (by kernel_rfl) (by kernel_rfl) (by kernel_rfl) (by kernel_rfl) (fun _ _ _ _ h => h) (by rfl) rfl ?_
          apply Exists.intro
          refine ⟨fun w' hw' => ?_, ?_⟩
          · subst hw'
            go_simp
            first | done | rfl
          try simp only [Act.put, List.setIfInBounds_toArray, List.set_cons_zero, List.set_cons_succ]
          refine UntH.take (i := 7) (some 38) rfl rfl (by kernel_rfl) (by kernel_rfl) (by kernel_rfl) (by kernel_rfl) (fun _ _ _ _ h => h) (by rfl) rfl ?_
          apply Exists.intro
          refine ⟨fun w' hw' => ?_, ?_⟩
          · subst hw'
            go_simp
            first | done | rfl
          try simp only [Act.put, List.setIfInBounds_toArray, List.set_cons_zero, List.set_cons_succ]
          refine UntH.take (i := 8) (some 39) rfl rfl (by kernel_rfl) (by kernel_rfl) (by kernel_rfl) (by kernel_rfl) (fun _ _ _ _ h => h) (by rfl) rfl ?_
          apply Exists.intro
          refine ⟨fun w' hw' => ?_, ?_⟩
          · subst hw'
            go_simp
            first | done | rfl
          try simp only [Act.put, List.setIfInBounds_toArray, List.set_cons_zero, List.set_cons_succ]
          refine UntH.take (i := 9) (some 40) rfl rfl (by kernel_rfl) (by kernel_rfl) (by kernel_rfl) (by kernel_rfl) (fun _ _ _ _ h => h) (by rfl) rfl ?_
          apply Exists.intro
          refine ⟨fun w' hw' => ?_, ?_⟩
          · subst hw'
            go_simp
            first | done | rfl
          try simp only [Act.put, List.setIfInBounds_toArray, List.set_cons_zero, List.set_cons_succ]
          refine UntH.take (i := 10) (some 41) rfl rfl (by kernel_rfl) (by kernel_rfl) (by kernel_rfl) (by kernel_rfl) (fun _ _ _ _ h => h) (by rfl) rfl ?_
          apply Exists.intro
          refine ⟨fun w' hw' => ?_, ?_⟩
          · subst hw'
            go_simp
            first | done | rfl
          try simp only [Act.put, List.setIfInBounds_toArray, List.set_cons_zero, List.set_cons_succ]
          refine UntH.take (i := 11) (some 42) rfl rfl (by kernel_rfl) (by kernel_rfl) (by kernel_rfl) (by kernel_rfl) (fun _ _ _ _ h => h) (by rfl) rfl ?_
          apply Exists.intro
          refine ⟨fun w' hw' => ?_, ?_⟩
          · subst hw'
            go_simp
            first | done | rfl
          try simp only [Act.put, List.setIfInBounds_toArray, List.set_cons_zero, List.set_cons_succ]
          refine UntH.take (i := 12) (some 43) rfl rfl (by kernel_rfl) (by kernel_rfl) (by kernel_rfl) (by kernel_rfl) (fun _ _ _ _ h => h) (by rfl) rfl ?_
          apply Exists.intro
          refine ⟨fun w' hw' => ?_, ?_⟩
          · subst hw'
            go_simp
            first | done | rfl
          try simp only [Act.put, List.setIfInBounds_toArray, List.set_cons_zero, List.set_cons_succ]
          refine UntH.take (i := 13) (some 44) rfl rfl (by kernel_rfl) (by kernel_rfl) (by kernel_rfl) (by kernel_rfl) (fun _ _ _ _ h => h) (by rfl) rfl ?_
          apply Exists.intro
          refine ⟨fun w' hw' => ?_, ?_⟩
          · subst hw'
            go_simp
            first | done | rfl
          try simp only [Act.put, List.setIfInBounds_toArray, List.set_cons_zero, List.set_cons_succ]
          refine UntH.take (i := 14) (some 45) rfl rfl (by kernel_rfl) (by kernel_rfl) (by kernel_rfl) (by kernel_rfl) (fun _ _ _ _ h => h) (by rfl) rfl ?_
          apply Exists.intro
          refine ⟨fun w' hw' => ?_, ?_⟩
          · subst hw'
            go_simp
            first | done | rfl
          try simp only [Act.put, List.setIfInBounds_toArray, List.set_cons_zero, List.set_cons_succ]
          refine UntH.take (i := 15) (some 46) rfl rfl (by kernel_rfl) (by kernel_rfl) (by kernel_rfl) (by kernel_rfl) (fun _ _ _ _ h => h) (by rfl) rfl ?_
          apply Exists.intro
          refine ⟨fun w' hw' => ?_, ?_⟩
          · subst hw'
            go_simp
            first | done | rfl
          try simp only [Act.put, List.setIfInBounds_toArray, List.set_cons_zero, List.set_cons_succ]
          refine UntH.take (i := 16) (some 47) rfl rfl (by kernel_rfl) (by kernel_rfl) (by kernel_rfl) (by kernel_rfl) (fun _ _ _ _ h => h) (by rfl) rfl ?_
          apply Exists.intro
          refine ⟨fun w' hw' => ?_, ?_⟩
          · subst hw'
            go_simp
            first | done | rfl
          try simp only [Act.put, List.setIfInBounds_toArray, List.set_cons_zero, List.set_cons_succ]
          refine UntH.take (i := 17) (some 48) rfl rfl (by kernel_rfl) (by kernel_rfl) (by kernel_rfl) (by kernel_rfl) (fun _ _ _ _ h => h) (by rfl) rfl ?_
          apply Exists.intro
          refine ⟨fun w' hw' => ?_, ?_⟩
          · subst hw'
            go_simp
            first | done | rfl
          try simp only [Act.put, List.setIfInBounds_toArray, List.set_cons_zero, List.set_cons_succ]
          refine UntH.last (by kernel_rfl) rfl (by kernel_rfl) (by kernel_rfl) (fun K hK => ?_)
          go_simp
          refine hK _ _ ?_
          clear hK K q1 q2 q3
          go_wp2
          go_ret2
          rw [EB.out]
          exact ⟨rfl, y8.out⟩
        have NX2 := hide (NX.out (by omega) (by omega))
        clear NX HE BADP
        go_upto_region 7 with fail
        refine wp_unt (S := fun V => V = wr.drew) 18 (by kernel_rfl) ?_
        generalize wr.drew = w4 at *
        refine UntH.take (i := 0) (some 31) rfl rfl (by kernel_rfl) (by kernel_rfl) (by kernel_rfl) (by kernel_rfl) (fun _ _ _ _ h => h) (by rfl) rfl ?_
        apply Exists.intro
        refine ⟨fun w' hw' => ?_, ?_⟩
        · subst hw'
          go_simp
          first | done | rfl
        try simp only [Act.put, List.setIfInBounds_toArray, List.set_cons_zero, List.set_cons_succ]
        refine UntH.take (i := 1) (some 32) rfl rfl (by kernel_rfl) (by kernel_rfl) (by kernel_rfl) (by kernel_rfl) (fun _ _ _ _ h => h) (by rfl) rfl ?_
        apply Exists.intro
        refine ⟨fun w' hw' => ?_, ?_⟩
        · subst hw'
          go_simp
          first | done | rfl
        try simp only [Act.put, List.setIfInBounds_toArray, List.set_cons_zero, List.set_cons_succ]
        refine UntH.take (i := 2) (some 33) rfl rfl (by kernel_rfl) (by kernel_rfl) (by kernel_rfl) (by kernel_rfl) (fun _ _ _ _ h => h) (by rfl) rfl ?_
        apply Exists.intro
        refine ⟨fun w' hw' => ?_, ?_⟩
        · subst hw'
          go_simp
          first | done | rfl
        try simp only [Act.put, List.setIfInBounds_toArray, List.set_cons_zero, List.set_cons_succ]
        refine UntH.take (i := 3) (some 34) rfl rfl (by kernel_rfl) (by kernel_rfl) (by kernel_rfl) (by kernel_rfl) (fun _ _ _ _ h => h) (by rfl) rfl ?_
        apply Exists.intro
        refine ⟨fun w' hw' => ?_, ?_⟩
        · subst hw'
          go_simp
          first | done | rfl
        try simp only [Act.put, List.setIfInBounds_toArray, List.set_cons_zero, List.set_cons_succ]
        refine UntH.take (i := 4) (some 35) rfl rfl (by kernel_rfl) (by kernel_rfl) (by kernel_rfl) (by kernel_rfl) (fun _ _ _ _ h => h) (by rfl) rfl ?_
        apply Exists.intro
        refine ⟨fun w' hw' => ?_, ?_⟩
        · subst hw'
          go_simp
          first | done | rfl
        try simp only [Act.put, List.setIfInBounds_toArray, List.set_cons_zero, List.set_cons_succ]
        refine UntH.take (i := 5) (some 36) rfl rfl (by kernel_rfl) (by kernel_rfl) (by kernel_rfl) (by kernel_rfl) (fun _ _ _ _ h => h) (by rfl) rfl ?_
        apply Exists.intro
        refine ⟨fun w' hw' => ?_, ?_⟩
        · subst hw'
          go_simp
          first | done | rfl
        try simp only [Act.put, List.setIfInBounds_toArray, List.set_cons_zero, List.set_cons_succ]
        refine UntH.take (i := 6) (some 37) rfl rfl (by kernel_rfl) (by kernel_rfl) (by kernel_rfl) (by kernel_rfl) (fun _ _ _ _ h => h) (by rfl) rfl ?_
        apply Exists.intro
        refine ⟨fun w' hw' => ?_, ?_⟩
        · subst hw'
          go_simp
          first | done | rfl
        try simp only [Act.put, List.setIfInBounds_toArray, List.set_cons_zero, List.set_cons_succ]
        refine UntH.take (i := 7) (some 38) rfl rfl (by kernel_rfl) (by kernel_rfl) (by kernel_rfl) (by kernel_rfl) (fun _ _ _ _ h => h) (by rfl) rfl ?_
        apply Exists.intro
        refine ⟨fun w' hw' => ?_, ?_⟩
        · subst hw'
          go_simp
          first | done | rfl
        try simp only [Act.put, List.setIfInBounds_toArray, List.set_cons_zero, List.set_cons_succ]
        refine UntH.take (i := 8) (some 39) rfl rfl (by kernel_rfl) (by kernel_rfl) (by kernel_rfl) (by kernel_rfl) (fun _ _ _ _ h => h) (by rfl) rfl ?_
        apply Exists.intro
        refine ⟨fun w' hw' => ?_, ?_⟩
        · subst hw'
          go_simp
          first | done | rfl
        try simp only [Act.put, List.setIfInBounds_toArray, List.set_cons_zero, List.set_cons_succ]
        refine UntH.take (i := 9) (some 40) rfl rfl (by kernel_rfl) (by kernel_rfl) (by kernel_rfl) (by kernel_rfl) (fun _ _ _ _ h => h) (by rfl) rfl ?_
        apply Exists.intro
        refine ⟨fun w' hw' => ?_, ?_⟩
        · subst hw'
          go_simp
          first | done | rfl
        try simp only [Act.put, List.setIfInBounds_toArray, List.set_cons_zero, List.set_cons_succ]
        refine UntH.take (i := 10) (some 41) rfl rfl (by kernel_rfl) (by kernel_rfl) (by kernel_rfl) (by kernel_rfl) (fun _ _ _ _ h => h) (by rfl) rfl ?_
        apply Exists.intro
        refine ⟨fun w' hw' => ?_, ?_⟩
        · subst hw'
          go_simp
          first | done | rfl
        try simp only [Act.put, List.setIfInBounds_toArray, List.set_cons_zero, List.set_cons_succ]
        refine UntH.take (i := 11) (some 42) rfl rfl (by kernel_rfl) (by kernel_rfl) (by kernel_rfl) (by kernel_rfl) (fun _ _ _ _ h => h) (by rfl) rfl ?_
        apply Exists.intro
        refine ⟨fun w' hw' => ?_, ?_⟩
        · subst hw'
          go_simp
          first | done | rfl
        try simp only [Act.put, List.setIfInBounds_toArray, List.set_cons_zero, List.set_cons_succ]
        refine UntH.take (i := 12) (some 43) rfl rfl (by kernel_rfl) (by kernel_rfl) (by kernel_rfl) (by kernel_rfl) (fun _ _ _ _ h => h) (by rfl) rfl ?_
        apply Exists.intro
        refine ⟨fun w' hw' => ?_, ?_⟩
        · subst hw'
          go_simp
          first | done | rfl
        try simp only [Act.put, List.setIfInBounds_toArray, List.set_cons_zero, List.set_cons_succ]
        refine UntH.take (i := 13) (some 44) rfl rfl (by kernel_rfl) (by kernel_rfl) (by kernel_rfl) (by kernel_rfl) (fun _ _ _ _ h => h) (by rfl) rfl ?_
        apply Exists.intro
        refine ⟨fun w' hw' => ?_, ?_⟩
        · subst hw'
          go_simp
          first | done | rfl
        try simp only [Act.put, List.setIfInBounds_toArray, List.set_cons_zero, List.set_cons_succ]
        refine UntH.take (i := 14) (some 45) rfl rfl (by kernel_rfl) (by kernel_rfl) (by kernel_rfl) (by kernel_rfl) (fun _ _ _ _ h => h) (by rfl) rfl ?_
        apply Exists.intro
        refine ⟨fun w' hw' => ?_, ?_⟩
        · subst hw'
          go_simp
          first | done | rfl
        try simp only [Act.put, List.setIfInBounds_toArray, List.set_cons_zero, List.set_cons_succ]
        refine UntH.take (i := 15) (some 46) rfl rfl (by kernel_rfl) (by kernel_rfl) (by kernel_rfl) (by kernel_rfl) (fun _ _ _ _ h => h) (by rfl) rfl ?_
        apply Exists.intro
        refine ⟨fun w' hw' => ?_, ?_⟩
        · subst hw'
          go_simp
          first | done | rfl
        try simp only [Act.put, List.setIfInBounds_toArray, List.set_cons_zero, List.set_cons_succ]
        refine UntH.take (i := 16) (some 47) rfl rfl (by kernel_rfl) (by kernel_rfl) (by kernel_rfl) (by kernel_rfl) (fun _ _ _ _ h => h) (by rfl) rfl ?_
        apply Exists.intro
        refine ⟨fun w' hw' => ?_, ?_⟩
        · subst hw'
          go_simp
          first | done | rfl
        try simp only [Act.put, List.setIfInBounds_toArray, List.set_cons_zero, List.set_cons_succ]
        refine UntH.take (i := 17) (some 48) rfl rfl (by kernel_rfl) (by kernel_rfl) (by kernel_rfl) (by kernel_rfl) (fun _ _ _ _ h => h) (by rfl) rfl ?_
        apply Exists.intro
        refine ⟨fun w' hw' => ?_, ?_⟩
        · subst hw'
          go_simp
          first | done | rfl
        try simp only [Act.put, List.setIfInBounds_toArray, List.set_cons_zero, List.set_cons_succ]
        refine UntH.last (by kernel_rfl) rfl (by kernel_rfl) (by kernel_rfl) (fun K hK => ?_)
        go_simp
        refine hK _ _ ?_
        clear hK K q1 q2 q3
        go_wp2
        go_roundw
        case rel => exact ⟨k + 1, by omega, by go_num, NX2, y8⟩
        case measure => simp [RowKit.intOf]; omega
      · have hlt' : ¬ (k : Int) < (A.length : Int) := by omega
        have HPT : Hid (PtL S A) := ⟨HL.out, fun i hi => HE.out i (by omega)⟩
        go_wp2
        go_meet
        exact ⟨HQ, HPT⟩
  obtain ⟨X2, HPT⟩ := hcut
  obtain ⟨w2, hw2⟩ : ∃ w2, w2 = wc := ⟨_, rfl⟩
  subst hw2
  have EV := hide (evG_ok HF.out HPT.out)
  go_wp2
  go_loopw [1] (fun v wr => ∃ f' : Int, v = .int .i64 f' ∧ Hid (wr = w2) ∧ Hid (hasR N f') ∧ Hid (sayR N (ptf A) f' = sayR N (ptf A) f)) (fun v _ => (RowKit.intOf v).toNat)
  case atStart => exact ⟨f, rfl, hide rfl, HF, hide rfl⟩
  case round =>
    obtain ⟨f', rfl, hwr, HF', HE⟩ := hrel
    have hwr2 := hwr.out.symm
    clear hwr
    subst hwr2
    by_cases h2 : 2 ≤ f'
    · have h2' : (1 : Int) < f' := by omega
      have ok := HH.out.ok
      obtain ⟨l, ks, hn⟩ := ok.ndAt h2 HF'.out.2
      have hls := hn.lt
      have LV := hide ((HH.out.below X2.out).level f')
      rw [hn.lev] at LV
      have hlA : l < A.length := by rw [HL.out]; exact hls
      have hlA' : (l : Int) < (A.length : Int) := by omega
      obtain ⟨b1, o1, rfl, hb1, g1⟩ := HZ.out.get hlA
      have q1 := (X2.out.cell (p := ⟨b1, o1 + l, none⟩) hb1).trans g1
      have hp := HPT.out.each l hlA
      obtain ⟨c, hc⟩ : ∃ c : Nat, A.getD l 0 = (c : Int) := ⟨(A.getD l 0).toNat, by omega⟩
      rw [hc] at q1 hp
      have hck : c < ks.length := by have := hn.len; omega
      have KD := kidD_any (HH.out.below X2.out) hn.at_ hck
      rw [show (((f' - 2).toNat : Nat) : Int) + 2 = f' by omega] at KD
      have HKD := hide KD
      have NXH : Hid (hasR N (ks.getD c 0) ∧ sayR N (ptf A) (ks.getD c 0) = sayR N (ptf A) f ∧ ks.getD c 0 < f') := by
        obtain ⟨k0, k1, k2⟩ := hn.kid c hck
        have hpc : ptf A l = c := by unfold ptf; rw [hc, Int.toNat_natCast]
        refine ⟨⟨k0, by have := HF'.out.2; omega⟩, ?_, k1⟩
        rw [← HE.out, hn.says ok HPT.out.pnt h2 HF'.out.2, hpc]
      clear KD g1 hb1 hn ok hc hp hck hls
      generalize ks.getD c 0 = r at *
      go_wp2_with (first
        | (go_at_call 53; refine LV.out.mono ?_; rintro e w5 ⟨rfl, hw5⟩; have hw6 := hw5.symm; clear hw5; subst hw6)
        | (go_at_call 68; refine HKD.out.mono ?_; rintro e w5 ⟨rfl, hw5⟩; have hw6 := hw5.symm; clear hw5; subst hw6))
      go_roundw
      case rel => exact ⟨r, rfl, hide (by first | rfl | trivial), hide NXH.out.1, hide NXH.out.2.1⟩
      case measure => have h5 := NXH.out; have h6 := h5.1.1; simp [RowKit.intOf]; omega
    · have h2' : ¬ (1 : Int) < f' := by omega
      have FIN : Hid (evG S N f A = (decide (f' = 1), 0)) := by
        unfold Hid
        rw [EV.out, ← HE.out, sayR_low h2]
      by_cases h1 : f' = 1
      · subst h1
        go_wp2
        go_ret2
        rw [FIN.out]
        exact ⟨rfl, X2.out⟩
      · have h1' : (f' == 1) = false := beq_eq_false_iff_ne.2 h1
        have h1d : decide (f' = 1) = false := decide_eq_false h1
        go_wp2
        go_ret2
        rw [FIN.out, h1d]
        exact ⟨rfl, X2.out⟩
end
end Go.Proofs.Ytaafeflbanoncaa
