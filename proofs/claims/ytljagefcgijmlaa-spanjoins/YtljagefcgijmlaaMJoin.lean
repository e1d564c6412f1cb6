/-
  The parts that are in one set, put together, are that set. No condition.
-/
import Derived.Test.YtljagefcgijmlaaAwake
namespace Go.Proofs.Ytljagefcgijmlaa

/-- Where the k-th part begins. -/
def nextOf (a : Int) (Q : List (Spn × List Nat)) (k : Nat) : Int := if k = 0 then a else (Q.getD (k - 1) ((0, 0), [])).1.2 + 1
theorem chain_get : ∀ {a : Int} {Q : List (Spn × List Nat)} {b : Int}, Chain a Q b → (∀ k, k < Q.length → (Q.getD k ((0, 0), [])).1.1 = nextOf a Q k ∧ nextOf a Q k ≤ (Q.getD k ((0, 0), [])).1.2) ∧ nextOf a Q Q.length = b
  | a, [], b, h => ⟨fun k hk => absurd hk (Nat.not_lt_zero k), h⟩
  | a, q :: Q, b, h => by
    obtain ⟨i1, i2⟩ := chain_get h.2.2
    have key : ∀ k, nextOf a (q :: Q) (k + 1) = nextOf (q.1.2 + 1) Q k := fun k => by
      unfold nextOf
      cases k with
      | zero => simp
      | succ k => simp
    refine ⟨fun k hk => ?_, by rw [List.length_cons, key]; exact i2⟩
    cases k with
    | zero => exact ⟨h.1, h.2.1⟩
    | succ k => rw [key, List.getD_cons_succ]; exact i1 k (by simpa using hk)
theorem chain_cover : ∀ {a : Int} {Q : List (Spn × List Nat)} {b : Int}, Chain a Q b → ∀ n, a ≤ n → n < b → ∃ q ∈ Q, q.1.1 ≤ n ∧ n ≤ q.1.2
  | a, [], b, h, n, h1, h2 => by have h : a = b := h; omega
  | a, q :: Q, b, h, n, h1, h2 => by
    by_cases hn : n ≤ q.1.2
    · exact ⟨q, by simp, by have := h.1; omega, hn⟩
    · obtain ⟨r, hr, h3⟩ := chain_cover h.2.2 n (by omega) h2
      exact ⟨r, by simp [hr], h3⟩
theorem chain_low : ∀ {a : Int} {Q : List (Spn × List Nat)} {b : Int}, Chain a Q b → ∀ q ∈ Q, a ≤ q.1.1 ∧ q.1.1 ≤ q.1.2
  | a, [], b, _, q, hq => by cases hq
  | a, r :: Q, b, h, q, hq => by
    rcases List.mem_cons.1 hq with rfl | h'
    · exact ⟨by have := h.1; omega, by have := h.1; have := h.2.1; omega⟩
    · have := chain_low h.2.2 q h'
      have := h.2.1
      omega
/-- The spans of the parts that are in the k-th set. -/
def allOf (Q : List (Spn × List Nat)) (k : Nat) : List Spn := Q.flatMap fun q => List.replicate (q.2.count k) q.1
theorem allOf_snoc (Q : List (Spn × List Nat)) (q : Spn × List Nat) (k : Nat) : allOf (Q ++ [q]) k = allOf Q k ++ List.replicate (q.2.count k) q.1 := by simp [allOf]
theorem mem_allOf {Q : List (Spn × List Nat)} {k : Nat} {s : Spn} : s ∈ allOf Q k ↔ ∃ q ∈ Q, k ∈ q.2 ∧ q.1 = s := by
  unfold allOf
  rw [List.mem_flatMap]
  constructor
  · rintro ⟨q, hq, h⟩
    rw [List.mem_replicate] at h
    exact ⟨q, hq, List.count_pos_iff.1 (Nat.pos_of_ne_zero h.1), h.2.symm⟩
  · rintro ⟨q, hq, h, rfl⟩
    exact ⟨q, hq, by rw [List.mem_replicate]; exact ⟨Nat.ne_of_gt (List.count_pos_iff.2 h), rfl⟩⟩
theorem allOf_bnd {S : List (List Spn)} {Q : List (Spn × List Nat)} (h : PParts S 4294967296 Q) (k : Nat) : ∀ s ∈ allOf Q k, Bnd s := by
  intro s hs
  obtain ⟨q, hq, _, rfl⟩ := mem_allOf.1 hs
  have h1 := chain_low h.chain q hq
  have h2 := h.top q hq
  unfold Bnd
  omega
theorem allOf_mem {S : List (List Spn)} {Q : List (Spn × List Nat)} (h : PParts S 4294967296 Q) (hS : ∀ L ∈ S, IsSet L) (k : Nat) (hk : k < S.length) (n : Int) : memB n (allOf Q k) = memB n (S.getD k []) := by
  have hset : IsSet (S.getD k []) := hS _ (by rw [List.getD_eq_getElem?_getD, List.getElem?_eq_getElem hk]; exact List.getElem_mem hk)
  have hin : ∀ m, k ∈ inOf S m ↔ memB m (S.getD k []) = true := fun m => by
    unfold inOf
    rw [List.mem_filter, List.mem_range]
    exact ⟨fun h => h.2, fun h => ⟨hk, h⟩⟩
  rw [Bool.eq_iff_iff]
  constructor
  · intro hm
    obtain ⟨s, hs, h1, h2⟩ := (memB_iff _ _).1 hm
    obtain ⟨q, hq, hkq, rfl⟩ := mem_allOf.1 hs
    rw [h.each q hq n h1 h2] at hkq
    exact (hin n).1 hkq
  · intro hm
    have hr := hset.range hm
    obtain ⟨q, hq, h1, h2⟩ := chain_cover h.chain n hr.1 (by omega)
    refine (memB_iff _ _).2 ⟨q.1, mem_allOf.2 ⟨q, hq, ?_, rfl⟩, h1, h2⟩
    rw [h.each q hq n h1 h2]
    exact (hin n).2 hm
theorem alike_not {S : List (List Spn)} {Q : List (Spn × List Nat)} (h : PParts S 4294967296 Q) (k : Nat) (hk : k + 1 < Q.length) : (Q.getD (k + 1) ((0, 0), [])).2 ≠ (Q.getD k ((0, 0), [])).2 := by
  obtain ⟨c1, _⟩ := chain_get h.chain
  have a1 := c1 (k + 1) hk
  have a0 := c1 k (by omega)
  have m1 : Q.getD (k + 1) ((0, 0), []) ∈ Q := by rw [List.getD_eq_getElem?_getD, List.getElem?_eq_getElem hk]; exact List.getElem_mem hk
  have m0 : Q.getD k ((0, 0), []) ∈ Q := by rw [List.getD_eq_getElem?_getD, List.getElem?_eq_getElem (show k < Q.length by omega)]; exact List.getElem_mem _
  have e1 := h.edge _ m1
  have t0 := h.top _ m0
  have t1 := h.top _ m1
  have b0 := (chain_low h.chain _ m0)
  have hn : nextOf 0 Q (k + 1) = (Q.getD k ((0, 0), [])).1.2 + 1 := by simp [nextOf]
  rw [a1.1, hn] at e1
  intro he
  rcases e1 with e1 | e1 | e1
  · omega
  · omega
  · have := inOf_edge e1
    rw [show (Q.getD k ((0, 0), [])).1.2 + 1 - 1 = (Q.getD k ((0, 0), [])).1.2 by omega] at this
    apply this
    rw [← h.each _ m0 _ (by omega) (Int.le_refl _), ← h.each _ m1 _ (by omega) (by omega), he]
theorem count_take (I : List Nat) (k j : Nat) (hj : j < I.length) : (I.take (j + 1)).count k = (I.take j).count k + if I.getD j 0 = k then 1 else 0 := by
  rw [List.take_succ_eq_append_getElem hj, List.count_append]
  simp [List.getD_eq_getElem?_getD, hj, List.count_singleton]
theorem inOf_nodup (S : List (List Spn)) (n : Int) : (inOf S n).Nodup := List.Pairwise.sublist (List.filter_sublist ..) List.nodup_range
theorem parts_nodup {S : List (List Spn)} {Q : List (Spn × List Nat)} (h : PParts S 4294967296 Q) : ∀ q ∈ Q, q.2.Nodup := fun q hq => by
  rw [h.each q hq q.1.1 (Int.le_refl _) (chain_low h.chain q hq).2]
  exact inOf_nodup S _
theorem count_one {I : List Nat} (h : I.Nodup) (k : Nat) : I.count k ≤ 1 := List.nodup_iff_count.1 h k
theorem allOf_length (Q : List (Spn × List Nat)) (k : Nat) (h : ∀ q ∈ Q, q.2.Nodup) : (allOf Q k).length ≤ Q.length := by
  induction Q with
  | nil => simp [allOf]
  | cons q Q ih =>
    have h1 := ih (fun x hx => h x (by simp [hx]))
    have h2 := count_one (h q (by simp)) k
    have : allOf (q :: Q) k = List.replicate (q.2.count k) q.1 ++ allOf Q k := by simp [allOf]
    rw [this, List.length_append, List.length_replicate, List.length_cons]
    omega
theorem parts_len {S : List (List Spn)} {Q : List (Spn × List Nat)} (h : PParts S 4294967296 Q) : Q.length ≤ 4294967296 ∧ 0 < Q.length := by
  have := h.chain.bound.2
  refine ⟨by omega, ?_⟩
  cases Q with
  | nil => have hc : (0 : Int) = 4294967296 := h.chain; omega
  | cons q Q => simp
theorem take_snoc (Q : List (Spn × List Nat)) (i : Nat) (hi : i < Q.length) : Q.take (i + 1) = Q.take i ++ [Q.getD i ((0, 0), [])] := by
  rw [List.take_succ_eq_append_getElem hi]
  simp [List.getD_eq_getElem?_getD, hi]
theorem replicate_snoc (c : Nat) (s : Spn) : List.replicate (c + 1) s = List.replicate c s ++ [s] := by
  rw [List.replicate_succ']
end Go.Proofs.Ytljagefcgijmlaa
