/-
  The scanner's end by its contract, in any state. Conditions: as step's.
-/
import Derived.Test.YtkpdbbbeagnjpaaGreatDoorQ24
namespace Go.Proofs.YtkpdbbbeagnjpaaGreatDoor
open Go.RowKit Go.Lib
section
variable {w : World} {base p : Nat} {s : By} {x : SS}
set_option maxHeartbeats 4000000 in
set_option maxRecDepth 100000 in
theorem endD_any (h : ScA w base p s x) (h4 : x.st = 4) (hf0 : 0 ≤ x.fr) (hf1 : x.fr < s.length) (hs : s.length ≤ 8000) (hgo : ∀ c ∈ cutB s x.fr.toNat s.length, goB 4 (bI c) = true) (hev : ErrV base w) (hb : base ≤ w.heap.size) (hl : x.tk.length ≤ 4294967295) :
    Calls Tryz.prog 20 #[.pointer (some ⟨p, 0, none⟩)] w fun e w' => ScE w base p s (endQ s x) e w' := by
  have HA := hide h
  obtain ⟨tv, ad, bv, h⟩ := h
  obtain ⟨c0, c2, -, f2, -⟩ := h.cells
  have hsz := bs_size s
  clear h
  rw [h4] at c2
  have HEND : Hid (∀ (W : World) (y : SS), ScA W base p s y → base ≤ W.heap.size → y.tk.length ≤ 4294967296 → ∃ tv ad bv, Sc W base p s y tv ad bv ∧ W.cell? ⟨p, 0, none⟩ = some (.string ⟨s.toArray⟩) ∧ W.frozen? ⟨p, 3, none⟩ = false ∧ (∃ z, W.cell? ⟨p, 3, none⟩ = some z) ∧ KpT base p W (W.setCell ⟨p, 3, none⟩ (.int .i64 s.length)) ∧ Calls Tryz.prog 37 #[.pointer (some ⟨p, 0, none⟩), .agg #[.int .i64 8, .string ⟨#[]⟩, .int .i64 0, .int .i64 0, .int .i64 0, .int .i64 0]] (W.setCell ⟨p, 3, none⟩ (.int .i64 s.length)) fun e w' => e = .returned (.tuple #[]) ∧ ScA w' base p s { y with fr := s.length, tk := y.tk ++ [⟨8, [], 0, 0, 0, s.length⟩] } ∧ KpT base p (W.setCell ⟨p, 3, none⟩ (.int .i64 s.length)) w' ∧ (W.setCell ⟨p, 3, none⟩ (.int .i64 s.length)).heap.size ≤ w'.heap.size) := fun W y hy hz ht => by
    obtain ⟨tv, ad, bv, hy⟩ := hy
    obtain ⟨s1, k1⟩ := hy.setFr s.length
    obtain ⟨d0, -, d3, -, f3⟩ := hy.cells
    refine ⟨tv, ad, bv, hy, d0, f3, ⟨_, d3⟩, k1, ?_⟩
    exact s1.add ⟨8, [], 0, 0, 0, 0⟩ ht (by have := k1.size; omega)
  have HM : Hid (endQ s x = if (endDigP x (cutB s x.fr.toNat s.length)).1 = 0 then (0, { (endDigP x (cutB s x.fr.toNat s.length)).2 with fr := s.length, tk := (endDigP x (cutB s x.fr.toNat s.length)).2.tk ++ [⟨8, [], 0, 0, 0, s.length⟩] }) else endDigP x (cutB s x.fr.toNat s.length)) := by unfold Hid endQ; rw [if_pos h4]
  have HX := hide (endDig_any HA.out (s.length : Int) h4 hf0 (by omega) (by omega) hs (by simpa using hgo) hev hb (by omega))
  rw [Int.toNat_natCast] at HX
  have ht := endDig_tk x (cutB s x.fr.toNat s.length)
  clear hgo
  generalize endDigP x (cutB s x.fr.toNat s.length) = y at *
  obtain ⟨y1, y2⟩ := y
  simp only at HM HX ht
  rcases ht with ⟨rfl, -, -, -, ht⟩ | ht
  · rw [if_pos rfl] at HM
    go_enter Tryz.func20, Tryz.ntmps20
    go_wp2_with (first | (go_at_call 35; refine HX.out.mono ?_; rintro e w2 ⟨rfl, hA, hK, hS⟩; obtain ⟨tv, ad, bv, hy, d0, f3, ⟨z, d3⟩, k1, hc⟩ := HEND.out w2 y2 hA (by omega) (by omega); have HC2 := hide hc; have HK1 := hide k1; have HK2 := hide hK; have HS2 := hide hS; clear hA hK hS hy hc k1) | (go_at_call 37; refine HC2.out.mono ?_; rintro e w3 ⟨rfl, hA, hK, hS⟩; have HA3 := hide hA; have HK3 := hide hK; have HS3 := hide hS; clear hA hK hS))
    go_ret
    rw [HM.out]
    exact ⟨rfl, HA3.out, HK2.out.trans (HK1.out.trans HK3.out), Nat.le_trans HS2.out (Nat.le_trans HK1.out.size HS3.out)⟩
  · obtain ⟨rfl, hy2⟩ := Prod.mk.inj ht
    have HY := hide hy2
    clear ht hy2
    rw [if_neg (by decide)] at HM
    go_enter Tryz.func20, Tryz.ntmps20
    go_wp2_with (go_at_call 35; refine HX.out.mono ?_; rintro e w2 ⟨rfl, hA, hK, hS⟩; have HA2 := hide hA; have HK2 := hide hK; have HS2 := hide hS; clear hA hK hS)
    go_ret
    rw [HM.out]
    exact ⟨rfl, HA2.out, HK2.out, HS2.out⟩
end
/-- What a scanner is in began within the source; a run of digits is one. -/
structure OkS (s : By) (i : Nat) (x : SS) : Prop where
  f0 : 0 ≤ x.fr
  f1 : x.fr ≤ i
  tk : x.tk.length ≤ 2 * i
  mn : x.mn.length ≤ 200
  dg : x.st = 4 → x.fr < i ∧ ∀ c ∈ cutB s x.fr.toNat i, goB 4 (bI c) = true
section
variable {w : World} {base p : Nat} {s : By} {x : SS}
theorem step_q (h : ScA w base p s x) (i : Nat) (r : Int) (h0 : 0 ≤ r) (ho : OkS s i x) (hq : i ≤ s.length) (hs : s.length ≤ 8000) (hev : ErrV base w) (hb : base ≤ w.heap.size) :
    Calls Tryz.prog 19 #[.pointer (some ⟨p, 0, none⟩), .int .i64 i, .int .i32 r] w fun e w' => ScE w base p s (stepQ s x i r) e w' := by
  have h1 := ho.tk
  have h2 := ho.mn
  have h3 := ho.f1
  by_cases h4 : x.st = 4
  · obtain ⟨d1, d2⟩ := ho.dg h4
    exact stepD_any h i r h0 h4 ho.f0 d1 (by omega) hs (by simpa using d2) hev hb (by omega)
  · have e : stepQ s x i r = stepP s x i r := by unfold stepQ; rw [if_neg h4]
    rw [e]
    exact stepAll_any h i r h0 h4 ho.f0 h3 (by omega) (by omega) hb (by omega) (by omega)
theorem end_q (h : ScA w base p s x) (ho : OkS s s.length x) (hs : s.length ≤ 8000) (hev : ErrV base w) (hb : base ≤ w.heap.size) :
    Calls Tryz.prog 20 #[.pointer (some ⟨p, 0, none⟩)] w fun e w' => ScE w base p s (endQ s x) e w' := by
  have h1 := ho.tk
  have h3 := ho.f1
  by_cases h4 : x.st = 4
  · obtain ⟨d1, d2⟩ := ho.dg h4
    exact endD_any h h4 ho.f0 d1 hs d2 hev hb (by omega)
  · have e : endQ s x = endP s x := by unfold endQ; rw [if_neg h4]
    rw [e]
    exact end_any h h4 ho.f0 h3 (by omega) hb (by omega)
end
end Go.Proofs.YtkpdbbbeagnjpaaGreatDoor
/-
  The scanner as a pure function: where it stands; bytes from 128 on. No condition.
-/
namespace Go.Proofs.YtkpdbbbeagnjpaaGreatDoor
open Go.RowKit Go.Lib

theorem cut_snoc (s : By) {f i : Nat} (hf : f ≤ i) (hi : i < s.length) : cutB s f (i + 1) = cutB s f i ++ [s[i]] := by
  unfold cutB
  rw [List.take_add_one, List.getElem?_eq_getElem hi, List.drop_append_of_le_length (by simp; omega)]
  rfl
theorem cut_self (s : By) (i : Nat) : cutB s i i = [] := by
  unfold cutB
  rw [List.drop_eq_nil_of_le (by simp; omega)]
theorem cut_one (s : By) {i : Nat} (hi : i < s.length) : cutB s i (i + 1) = [s[i]] := by
  rw [cut_snoc s (Nat.le_refl i) hi, cut_self]
  rfl
theorem OkS.next {s : By} {i : Nat} {x : SS} (h : OkS s i x) (hn : x.st ≠ 4) {j : Nat} (hj : i ≤ j) : OkS s j x :=
  ⟨h.f0, by have := h.f1; omega, by have := h.tk; omega, h.mn, fun e => absurd e hn⟩
theorem begin_ok {s : By} {i : Nat} (hi : i < s.length) {y : SS} (ht : y.tk.length ≤ 2 * i + 1) (hm : y.mn.length ≤ 200) (h0 : (beginP y i (bI s[i])).1 = 0) : OkS s (i + 1) (beginP y i (bI s[i])).2 := by
  have hf0 : (0 : Int) ≤ i := by omega
  have hf1 : (i : Int) ≤ ((i + 1 : Nat) : Int) := by omega
  unfold beginP at h0 ⊢
  split
  · exact ⟨hf0, hf1, by show y.tk.length ≤ _; omega, hm, fun e => by cases e⟩
  · split
    · exact ⟨hf0, hf1, by show y.tk.length ≤ _; omega, hm, fun e => by cases e⟩
    · split
      · exact ⟨hf0, hf1, by show y.tk.length ≤ _; omega, hm, fun e => by cases e⟩
      · split
        · exact ⟨hf0, hf1, by show y.tk.length ≤ _; omega, hm, fun e => by cases e⟩
        · split
          · rename_i hd
            refine ⟨hf0, hf1, by show y.tk.length ≤ _; omega, hm, fun _ => ⟨by show (i : Int) < _; omega, fun c hc => ?_⟩⟩
            have hc2 : c ∈ cutB s i (i + 1) := by simpa using hc
            rw [cut_one s hi] at hc2
            have : c = s[i] := by simpa using hc2
            subst this
            unfold goB
            rw [if_neg (by decide), if_neg (by decide), hd]
            simp
          · split
            · exact ⟨hf0, hf1, by show y.tk.length ≤ _; omega, hm, fun e => by cases e⟩
            · split
              · exact ⟨hf0, hf1, by show (y.tk ++ [_]).length ≤ _; simp; omega, hm, fun e => by cases e⟩
              · rename_i h1 h2 h3 h4 h5 h6 h7
                rw [if_neg h1, if_neg h2, if_neg h3, if_neg h4, if_neg h5, if_neg h6, if_neg h7] at h0
                cases h0
theorem mean_ok {s : By} {i : Nat} {x : SS} {r : Int} (hf0 : 0 ≤ x.fr) (hf1 : x.fr ≤ i) (ht : x.tk.length ≤ 2 * i) (hm : x.mn.length ≤ 200) (hn : x.st ≠ 4) (h0 : (meanP x r).1 = 0) : OkS s (i + 1) (meanP x r).2 := by
  unfold meanP at h0 ⊢
  split
  · rename_i h
    exact ⟨hf0, by show x.fr ≤ _; omega, by show x.tk.length ≤ _; omega, by show (x.mn ++ [_]).length ≤ _; simp; omega, fun e => absurd e hn⟩
  · rename_i h
    rw [if_neg h] at h0
    cases h0
theorem endLetters_form (x : SS) (run : By) (a b : Int) : (endLettersP x run a b).2.mn = x.mn := by
  unfold endLettersP
  split
  · rfl
  · rfl
theorem okS_step {s : By} {i : Nat} (hi : i < s.length) {x : SS} (h : OkS s i x) (h0 : (stepQ s x i (bI s[i])).1 = 0) : OkS s (i + 1) (stepQ s x i (bI s[i])).2 := by
  have t1 := h.tk
  have t2 := h.mn
  have t3 := h.f0
  have t4 := h.f1
  unfold stepQ at h0 ⊢
  by_cases h4 : x.st = 4
  · rw [if_pos h4] at h0 ⊢
    obtain ⟨d1, d2⟩ := h.dg h4
    by_cases hg : goB 4 (bI s[i]) = true
    · rw [if_pos hg]
      refine ⟨t3, by show x.fr ≤ _; omega, by show x.tk.length ≤ _; omega, t2, fun _ => ⟨by show x.fr < ((i + 1 : Nat) : Int); omega, fun c hc => ?_⟩⟩
      rw [cut_snoc s (by have : x.fr.toNat ≤ i := (by omega); exact this) hi] at hc
      rcases List.mem_append.1 hc with hc | hc
      · exact d2 c hc
      · have : c = s[i] := by simpa using hc
        rw [this]
        exact hg
    · rw [if_neg hg] at h0 ⊢
      rcases endDig_tk x (cutB s x.fr.toNat (i : Int).toNat) with ⟨e1, e2, e3, e4, e5⟩ | e1
      · rw [if_pos e1] at h0 ⊢
        exact begin_ok hi (by omega) (by rw [e3]; exact t2) h0
      · rw [e1, if_neg (by show ¬ (81 : Int) = 0; decide)] at h0
        cases h0
  · rw [if_neg h4] at h0 ⊢
    unfold stepP at h0 ⊢
    split
    · rename_i e1
      split
      · exact ⟨t3, by show x.fr ≤ _; omega, by show x.tk.length ≤ _; omega, t2, fun e => by cases e⟩
      · exact h.next h4 (by omega)
    · rename_i e1
      rw [if_neg e1] at h0
      split
      · rename_i e5
        rw [if_pos e5] at h0
        unfold stepTextP at h0 ⊢
        split
        · exact ⟨t3, by show x.fr ≤ _; omega, by show (x.tk ++ [_]).length ≤ _; simp; omega, by show ([] : By).length ≤ _; simp, fun e => by cases e⟩
        · rename_i n1
          rw [if_neg n1] at h0
          split
          · exact ⟨t3, by show x.fr ≤ _; omega, by show x.tk.length ≤ _; omega, t2, fun e => by cases e⟩
          · rename_i n2
            rw [if_neg n2] at h0
            exact mean_ok t3 t4 t1 t2 h4 h0
      · rename_i e5
        rw [if_neg e5] at h0
        split
        · rename_i e6
          rw [if_pos e6] at h0
          unfold stepEscP at h0 ⊢
          split
          · rename_i n1
            rw [if_pos n1] at h0
            exact mean_ok (x := { x with st := 5 }) t3 t4 t1 t2 (by show (5 : Int) ≠ 4; decide) h0
          · rename_i n1
            rw [if_neg n1] at h0
            cases h0
        · rename_i e6
          rw [if_neg e6] at h0
          split
          · rename_i e23
            rw [if_pos e23] at h0
            split
            · exact h.next h4 (by omega)
            · rename_i hg
              rw [if_neg hg] at h0
              obtain ⟨ht, hy⟩ := endRun_tk s x i
              split
              · rename_i he
                rw [if_pos he] at h0
                refine begin_ok hi (by omega) ?_ h0
                have : (endRunP s x i).2.mn = x.mn := by
                  unfold endRunP
                  split
                  · exact endLetters_form _ _ _ _
                  · exact endLetters_form _ _ _ _
                rw [this]
                exact t2
              · rename_i he
                rw [if_neg he] at h0
                exact absurd h0 he
          · rename_i e23
            rw [if_neg e23] at h0
            exact begin_ok hi (by omega) t2 h0
/-- A rune from 128 on: only in a remark. -/
theorem step_high (s : By) (x : SS) (q : Int) {r : Int} (h : 128 ≤ r) : stepQ s x q r = if x.st = 1 then (0, x) else stepQ s x q 128 := by
  have hg : ∀ k, ¬ goB k r = true := fun k => by rw [go_high h]; decide
  have hg' : ∀ k, ¬ goB k 128 = true := fun k => by rw [go_high (by decide)]; decide
  have ht : ∀ y, meanP y r = meanP y 128 := fun y => by
    unfold meanP
    rw [if_neg (by rw [tx_high h]; simp), if_neg (by rw [tx_high (by decide)]; simp)]
  have hb : ∀ y, beginP y q r = beginP y q 128 := fun y => by rw [beginP_high y q h, beginP_high y q (by decide)]
  split
  · rename_i e1
    unfold stepQ stepP
    rw [if_neg (by omega), if_pos e1, if_neg (by omega)]
  · rename_i e1
    unfold stepQ stepP stepTextP stepEscP
    simp only [if_neg (hg _), if_neg (hg' _), hb, ht, if_neg e1, es_high h, es_high (show (128 : Int) ≤ 128 by decide), if_neg (show ¬ r = 34 by omega), if_neg (show ¬ r = 92 by omega), if_neg (show ¬ (128 : Int) = 34 by decide), if_neg (show ¬ (128 : Int) = 92 by decide)]
theorem step_128 (s : By) (x : SS) (q : Int) (h : x.st ≠ 1) : (stepQ s x q 128).1 ≠ 0 := by
  have hg : ∀ k, ¬ goB k 128 = true := fun k => by rw [go_high (by decide)]; decide
  have ht : ∀ y, (meanP y 128).1 = 83 := fun y => by
    unfold meanP
    rw [if_neg (by rw [tx_high (by decide)]; simp)]
  have hb : ∀ y, (beginP y q 128).1 = 80 := fun y => by rw [beginP_high y q (by decide)]
  unfold stepQ stepP stepTextP stepEscP
  simp only [if_neg (hg _), if_neg h, es_high (show (128 : Int) ≤ 128 by decide), if_neg (show ¬ (128 : Int) = 34 by decide), if_neg (show ¬ (128 : Int) = 92 by decide)]
  split
  · split
    · rw [hb]; decide
    · assumption
  · split
    · rw [ht]; decide
    · split
      · show (83 : Int) ≠ 0
        decide
      · split
        · split
          · rw [hb]; decide
          · assumption
        · rw [hb]; decide
/-- All bytes from a place on. -/
def foldQ (s : By) : Nat → SS → By → Int × SS
  | _, x, [] => (0, x)
  | i, x, b :: t => if (stepQ s x i (bI b)).1 = 0 then foldQ s (i + 1) (stepQ s x i (bI b)).2 t else stepQ s x i (bI b)
theorem fold_high (s : By) (x : SS) (h1 : x.st = 1) : ∀ (k i : Nat), i + k ≤ s.length → (∀ j (hj : j < s.length), i ≤ j → j < i + k → 128 ≤ s[j].toNat) → foldQ s i x (s.drop i) = foldQ s (i + k) x (s.drop (i + k))
  | 0, i, _, _ => rfl
  | k + 1, i, hk, hb => by
    have hi : i < s.length := by omega
    have hd : s.drop i = s[i] :: s.drop (i + 1) := List.drop_eq_getElem_cons hi
    have hs : stepQ s x i (bI s[i]) = (0, x) := by
      rw [step_high s x i (by unfold bI; have := hb i hi (Nat.le_refl _) (by omega); omega), if_pos h1]
    rw [hd, foldQ, hs, if_pos rfl]
    have := fold_high s x h1 k (i + 1) (by omega) (fun j hj h2 h3 => hb j hj (by omega) (by omega))
    rw [this]
    congr 1
    · omega
    · congr 1
      omega
theorem dec_wide (s : ByteArray) (i : Nat) (hi : i < s.size) (hb : 128 ≤ (s.get! i).toNat) : i + (Utf8.decode s i).2 ≤ s.size ∧ ∀ j, i ≤ j → j < i + (Utf8.decode s i).2 → 128 ≤ (s.get! j).toNat := by
  have one : i + 1 ≤ s.size ∧ ∀ j, i ≤ j → j < i + 1 → 128 ≤ (s.get! j).toNat := ⟨hi, fun j h1 h2 => by rw [show j = i by omega]; exact hb⟩
  have cont : ∀ k, (decide (i + k < s.size) && ((s.get! (i + k)).toNat / 64 == 2)) = true → i + k < s.size ∧ 128 ≤ (s.get! (i + k)).toNat := fun k h => by
    rw [Bool.and_eq_true, decide_eq_true_eq, beq_iff_eq] at h
    exact ⟨h.1, by omega⟩
  unfold Utf8.decode
  simp only [Nat.add_zero]
  rw [if_neg (by omega)]
  split
  · rename_i h
    rw [Bool.and_eq_true] at h
    obtain ⟨a1, a2⟩ := cont 1 h.2
    split
    · refine ⟨by show i + 2 ≤ _; omega, fun j h1 h2 => ?_⟩
      have h2 : j < i + 2 := h2
      rcases (by omega : j = i ∨ j = i + 1) with rfl | rfl
      · exact hb
      · exact a2
    · exact one
  · split
    · rename_i h
      rw [Bool.and_eq_true, Bool.and_eq_true] at h
      obtain ⟨a1, a2⟩ := cont 1 h.1.2
      obtain ⟨b1, b2⟩ := cont 2 h.2
      split
      · refine ⟨by show i + 3 ≤ _; omega, fun j h1 h2 => ?_⟩
        have h2 : j < i + 3 := h2
        rcases (by omega : j = i ∨ j = i + 1 ∨ j = i + 2) with rfl | rfl | rfl
        · exact hb
        · exact a2
        · exact b2
      · exact one
    · split
      · rename_i h
        rw [Bool.and_eq_true, Bool.and_eq_true, Bool.and_eq_true] at h
        obtain ⟨a1, a2⟩ := cont 1 h.1.1.2
        obtain ⟨b1, b2⟩ := cont 2 h.1.2
        obtain ⟨c1, c2⟩ := cont 3 h.2
        split
        · refine ⟨by show i + 4 ≤ _; omega, fun j h1 h2 => ?_⟩
          have h2 : j < i + 4 := h2
          rcases (by omega : j = i ∨ j = i + 1 ∨ j = i + 2 ∨ j = i + 3) with rfl | rfl | rfl | rfl
          · exact hb
          · exact a2
          · exact b2
          · exact c2
        · exact one
      · exact one
end Go.Proofs.YtkpdbbbeagnjpaaGreatDoor
