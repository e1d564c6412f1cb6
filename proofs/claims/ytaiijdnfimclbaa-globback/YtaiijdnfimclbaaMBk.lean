/-
  What is printed is read as it. No condition.
-/
import Derived.Test.YtaiijdnfimclbaaMCat
import Derived.Test.YtaiijdnfimclbaaPrt
namespace Go.Proofs.Ytaiijdnfimclbaa

theorem bU_nat {b : Int} (h0 : 0 ≤ b) (h1 : b ≤ 126) : ((bU b).toNat : Int) = b := by
  unfold bU
  rw [UInt8.toNat_ofNat']
  omega
theorem pre_cons (c d : UInt8) (q r : By) : (c :: q).isPrefixOf (d :: r) = ((c == d) && q.isPrefixOf r) := rfl
theorem pre_one (c d : UInt8) (r : By) : [c].isPrefixOf (d :: r) = (c == d) := by rw [pre_cons]; cases r <;> simp [List.isPrefixOf]
theorem tkL_bU {least : Nat} {b : Int} (h0 : 0 ≤ b) (h1 : b ≤ 126) (hl : (least : Int) ≤ b) (r : By) : tkL least (bU b :: r) = .ok (bU b, r) := by
  have := bU_nat h0 h1
  show (if least ≤ (bU b).toNat ∧ (bU b).toNat ≤ 126 then _ else _) = _
  rw [if_pos ⟨by omega, by omega⟩]
theorem ne_of_not_contains {q : By} {c d : UInt8} (h : q.contains c = false) (hd : d ∈ q) : (d == c) = false := by
  cases he : (d == c) with
  | false => rfl
  | true =>
    have : d = c := by simpa using he
    subst this
    have h2 : q.contains d = true := by simpa using hd
    rw [h2] at h
    cases h
theorem mbL_esc {least : Nat} {b : Int} (h0 : 0 ≤ b) (h1 : b ≤ 126) (hl : (least : Int) ≤ b) (r : By) : mbL least (escL b insS' ++ r) = .ok (bU b, r) := by
  unfold escL
  cases hc : insS'.contains (bU b) with
  | true =>
    rw [if_pos rfl]
    show mbL least (92 :: bU b :: r) = _
    unfold mbL
    rw [pre_one, if_pos (by rfl)]
    exact tkL_bU h0 h1 hl r
  | false =>
    rw [if_neg (by decide)]
    show mbL least (bU b :: r) = _
    unfold mbL
    rw [pre_one, pre_one, pre_one, ne_of_not_contains hc (by decide), ne_of_not_contains hc (by decide), ne_of_not_contains hc (by decide)]
    exact tkL_bU h0 h1 hl r
/-- The first byte of what is escaped is none of those that are. -/
theorem esc_head (b : Int) (q r : By) (c : UInt8) (hc : c ∈ q) (h92 : (c == 92) = false) : [c].isPrefixOf (escL b q ++ r) = false := by
  unfold escL
  cases h : q.contains (bU b) with
  | true =>
    rw [if_pos rfl]
    show [c].isPrefixOf (92 :: bU b :: r) = false
    rw [pre_one, h92]
  | false =>
    rw [if_neg (by decide)]
    show [c].isPrefixOf (bU b :: r) = false
    rw [pre_one]
    exact ne_of_not_contains h hc
theorem spT_head (s : Spn) (r : By) (c : UInt8) (hc : c ∈ insS') (h92 : (c == 92) = false) : [c].isPrefixOf (spT s ++ r) = false := by
  unfold spT
  rw [List.append_assoc]
  exact esc_head s.1 insS' _ c hc h92
theorem itL_sp {s : Spn} (h : 32 ≤ s.1 ∧ s.1 ≤ s.2 ∧ s.2 ≤ 126) (r : By) (hr : s.2 = s.1 → [45].isPrefixOf r = false) : itL (spT s ++ r) = .ok (s, r) := by
  obtain ⟨lo, hi⟩ := s
  simp only at h hr
  have n1 := bU_nat (b := lo) (by omega) (by omega)
  have n2 := bU_nat (b := hi) (by omega) (by omega)
  unfold itL spT
  simp only
  rw [List.append_assoc, mbL_esc (by omega) (by omega) (by omega)]
  simp only
  by_cases he : hi = lo
  · rw [if_pos he, List.nil_append, if_neg (by rw [hr he]; decide), n1, he]
  · rw [if_neg he]
    rw [List.cons_append, pre_one, if_pos (by rfl), List.drop_one, List.tail_cons, mbL_esc (by omega) (by omega) (by omega)]
    simp only
    rw [n1, n2]
theorem spT_pos (s : Spn) : 0 < (spT s).length := by
  unfold spT escL
  split <;> simp
theorem its_print : ∀ (S A : List Spn) (n : Nat) (r : By), (∀ s ∈ S, 32 ≤ s.1 ∧ s.1 ≤ s.2 ∧ s.2 ≤ 126) → (A ≠ [] ∨ S ≠ []) → (S.flatMap spT ++ 93 :: r).length < n → itsL n (S.flatMap spT ++ 93 :: r) A = .ok (A ++ S, r)
  | _, _, 0, _, _, _, h => absurd h (Nat.not_lt_zero _)
  | [], A, n + 1, r, _, hne, _ => by
    have hA : A ≠ [] := by rcases hne with h | h; exact h; exact absurd rfl h
    unfold itsL
    rw [if_pos (by
      show (!A.isEmpty && [93].isPrefixOf (93 :: r)) = true
      rw [pre_one]
      cases A with
      | nil => exact absurd rfl hA
      | cons x A => rfl)]
    simp
  | s :: S, A, n + 1, r, hS, _, hn => by
    have hs := hS s (by simp)
    unfold itsL
    rw [List.flatMap_cons, List.append_assoc, if_neg (by rw [spT_head s _ 93 (by decide) (by decide), Bool.and_false]; decide)]
    rw [itL_sp hs _ (fun _ => by
      cases S with
      | nil => rw [List.flatMap_nil, List.nil_append, pre_one]; decide
      | cons t S => rw [List.flatMap_cons, List.append_assoc]; exact spT_head t _ 45 (by decide) (by decide))]
    simp only
    have := spT_pos s
    rw [its_print S (A ++ [s]) n r (fun x hx => hS x (List.mem_cons_of_mem _ hx)) (.inl (by simp)) (by
      rw [List.flatMap_cons, List.append_assoc, List.length_append] at hn
      omega), List.append_assoc]
    rfl
theorem st_print {no : Bool} {S : List Spn} (h : RS S) (r : By) : pcL (stT no S ++ r) = .ok (⟨3, 0, no, S⟩, r) := by
  have hS : ∀ s ∈ S, 32 ≤ s.1 ∧ s.1 ≤ s.2 ∧ s.2 ≤ 126 := fun s hs => by
    have h1 := h.2.2 s hs
    have h2 := h.1.1 s hs
    unfold Bnd at h2
    exact ⟨h1.1, h2.2.1, h1.2⟩
  have hset : setOf S = S := setOf_eq h.1.1 h.1 (fun _ => rfl)
  have e : stT no S ++ r = 91 :: ((if no then [33] else []) ++ (S.flatMap spT ++ 93 :: r)) := by
    unfold stT
    cases no <;> simp
  rw [e]
  unfold pcL
  rw [pre_cons, pre_one, pre_one, pre_one, if_neg (by simp), if_neg (by decide), if_neg (by decide), if_pos (by rfl), List.drop_one, List.tail_cons]
  have hit := its_print S [] ((S.flatMap spT ++ 93 :: r).length + 1) r hS (.inr h.2.1) (Nat.lt_succ_self _)
  unfold stL
  cases no with
  | true =>
    simp only [if_true]
    rw [show ([33] : By) ++ (S.flatMap spT ++ 93 :: r) = 33 :: (S.flatMap spT ++ 93 :: r) from rfl, pre_one, if_pos (by rfl), List.drop_one, List.tail_cons, hit, List.nil_append]
    simp only
    rw [hset]
    rfl
  | false =>
    have hb : [33].isPrefixOf (S.flatMap spT ++ 93 :: r) = false := by
      cases S with
      | nil => exact absurd rfl h.2.1
      | cons s S => rw [List.flatMap_cons, List.append_assoc]; exact spT_head s _ 33 (by decide) (by decide)
    simp only [Bool.false_eq_true, if_false, List.nil_append]
    rw [hb, if_neg (by decide), hit, List.nil_append]
    simp only
    rw [hset]
def insP : By := [42, 63, 91, 92]
theorem pc_print {p : Pc} (h : Rp p) (r : By) (hr : p.kind = 4 → [42].isPrefixOf r = false) : pcL (pcT p ++ r) = .ok (p, r) := by
  obtain ⟨kd, kb, kn, kS⟩ := p
  rcases rp_kinds h with hk | hk | hk | hk | hk
  all_goals
    simp only at hk
    subst hk
  · obtain ⟨h1, h2, rfl, rfl⟩ := Rp_one.1 h
    have n1 := bU_nat (b := kb) (by omega) (by omega)
    have e : pcT ⟨1, kb, false, []⟩ = escL kb insP := by simp [pcT, insP]
    rw [e]
    unfold escL
    cases hc : insP.contains (bU kb) with
    | true =>
      rw [if_pos rfl]
      show pcL (92 :: bU kb :: r) = _
      unfold pcL
      rw [pre_cons, pre_one, pre_one, pre_one, pre_one, if_neg (by simp), if_neg (by decide), if_neg (by decide), if_neg (by decide), if_pos (by rfl), List.drop_one, List.tail_cons, tkL_bU (by omega) h2 (by omega)]
      simp only
      rw [n1]
    | false =>
      rw [if_neg (by decide)]
      show pcL (bU kb :: r) = _
      unfold pcL
      have q1 := ne_of_not_contains (d := 42) hc (by decide)
      have q2 := ne_of_not_contains (d := 63) hc (by decide)
      have q3 := ne_of_not_contains (d := 91) hc (by decide)
      have q4 := ne_of_not_contains (d := 92) hc (by decide)
      rw [pre_cons, pre_one, pre_one, pre_one, pre_one, q1, q2, q3, q4, if_neg (by simp), if_neg (by decide), if_neg (by decide), if_neg (by decide), if_neg (by decide), tkL_bU (by omega) h2 (by omega)]
      simp only
      rw [n1]
  · obtain ⟨rfl, rfl, rfl⟩ := (Rp_plain (by decide)).1 h
    show pcL (63 :: r) = _
    unfold pcL
    rw [pre_cons, pre_one, pre_one, if_neg (by simp), if_neg (by decide), if_pos (by rfl)]
    rfl
  · obtain ⟨rfl, hS⟩ := Rp_set.1 h
    exact st_print hS r
  · obtain ⟨rfl, rfl, rfl⟩ := (Rp_plain (by decide)).1 h
    show pcL (42 :: r) = _
    unfold pcL
    rw [pre_cons, hr rfl, Bool.and_false, pre_one, if_neg (by decide), if_pos (by rfl)]
    rfl
  · obtain ⟨rfl, rfl, rfl⟩ := (Rp_plain (by decide)).1 h
    show pcL (42 :: 42 :: r) = _
    unfold pcL
    rw [pre_cons, pre_one, if_pos (by rfl)]
    rfl
theorem pcT_pos (p : Pc) : 0 < (pcT p).length := by
  unfold pcT
  split
  · unfold escL; split <;> simp
  · split
    · decide
    · split
      · unfold stT; simp
      · split <;> decide
theorem pcT_head {p : Pc} (h : Rp p) (hm : manyK p.kind = false) (r : By) : [42].isPrefixOf (pcT p ++ r) = false := by
  obtain ⟨kd, kb, kn, kS⟩ := p
  rcases rp_kinds h with hk | hk | hk | hk | hk
  all_goals
    simp only at hk
    subst hk
  · have e : pcT ⟨1, kb, kn, kS⟩ = escL kb insP := by simp [pcT, insP]
    rw [e]
    exact esc_head kb insP r 42 (by decide) (by decide)
  · show [42].isPrefixOf (63 :: r) = false
    rw [pre_one]; decide
  · have e : pcT ⟨3, kb, kn, kS⟩ = stT kn kS := by simp [pcT]
    rw [e]
    unfold stT
    show [42].isPrefixOf (91 :: _) = false
    rw [pre_one]; decide
  · exact absurd hm (show ¬ manyK 4 = false by decide)
  · exact absurd hm (show ¬ manyK 5 = false by decide)
theorem ps_print : ∀ (L A : List Pc) (n : Nat), (∀ p ∈ L, Rp p) → (∀ i, i + 1 < L.length → ¬ ((L.getD i zPc).kind = 4 ∧ manyK (L.getD (i + 1) zPc).kind = true)) → A.length + L.length ≤ 64 → (prT L).length < n → psL n (prT L) A = .ok (A ++ L)
  | _, _, 0, _, _, _, h => absurd h (Nat.not_lt_zero _)
  | [], A, n + 1, _, _, _, _ => by
    unfold psL
    rw [if_pos (show prT [] = [] from rfl), List.append_nil]
  | p :: L, A, n + 1, hR, hadj, h64, hn => by
    have hp := hR p (by simp)
    have e : prT (p :: L) = pcT p ++ prT L := by simp [prT]
    have hpos := pcT_pos p
    unfold psL
    rw [e, if_neg (fun h => by rw [List.append_eq_nil_iff] at h; rw [h.1] at hpos; exact absurd hpos (by decide)), if_neg (by simp only [List.length_cons] at h64; omega)]
    rw [pc_print hp (prT L) (fun hk => by
      cases L with
      | nil => rfl
      | cons q L =>
        have h1 := hadj 0 (by simp)
        have hq : manyK q.kind = false := by
          cases hm : manyK q.kind with
          | false => rfl
          | true => exact absurd ⟨hk, hm⟩ h1
        have e2 : prT (q :: L) = pcT q ++ prT L := by simp [prT]
        rw [e2]
        exact pcT_head (hR q (by simp)) hq _)]
    simp only
    rw [ps_print L (A ++ [p]) n (fun q hq => hR q (List.mem_cons_of_mem _ hq)) (fun i hi => by
      have := hadj (i + 1) (by simp only [List.length_cons]; omega)
      simpa using this) (by rw [List.length_append, List.length_singleton]; simp only [List.length_cons] at h64; omega) (by rw [e, List.length_append] at hn; omega), List.append_assoc]
    rfl
/-- What is printed of right pieces is read as these. -/
theorem par_print {L : List Pc} (h : Rt L) : parL (prT L) = .ok L := by
  have := ps_print L [] ((prT L).length + 1) h.2.1 h.2.2 (by simpa using h.1) (Nat.lt_succ_self _)
  rwa [List.nil_append] at this
end Go.Proofs.Ytaiijdnfimclbaa
