/-
  awake, the chapter's examples: it answers true; nothing that was there has turned. No condition.
-/
import Derived.Test.YtljagefcgijmlaaParts
namespace Go.Proofs.Ytljagefcgijmlaa
open Go.RowKit Go.Lib

theorem inOf_edge {S : List (List Spn)} {n : Int} (h : ∃ k, k < S.length ∧ memB (n - 1) (S.getD k []) ≠ memB n (S.getD k [])) : inOf S (n - 1) ≠ inOf S n := by
  obtain ⟨k, hk, hne⟩ := h
  intro he
  have : (k ∈ inOf S (n - 1)) = (k ∈ inOf S n) := by rw [he]
  unfold inOf at this
  rw [List.mem_filter, List.mem_filter, List.mem_range] at this
  simp only [hk, true_and] at this
  apply hne
  rw [Bool.eq_iff_iff]
  exact Eq.to_iff this
/-- All numbers are parted in just one way. -/
theorem chain_unique {S : List (List Spn)} : ∀ {Q Q' : List (Spn × List Nat)} {a : Int}, 0 ≤ a → Chain a Q 4294967296 → Chain a Q' 4294967296 → (∀ q ∈ Q, ∀ n, q.1.1 ≤ n → n ≤ q.1.2 → q.2 = inOf S n) → (∀ q ∈ Q', ∀ n, q.1.1 ≤ n → n ≤ q.1.2 → q.2 = inOf S n) →
    (∀ q ∈ Q, Edge S q.1.1) → (∀ q ∈ Q', Edge S q.1.1) → (∀ q ∈ Q, q.1.2 ≤ 4294967295) → (∀ q ∈ Q', q.1.2 ≤ 4294967295) → Q = Q'
  | [], [], _, _, _, _, _, _, _, _, _, _ => rfl
  | [], q :: Q', a, _, h, h', _, _, _, _, _, t' => by
    have h : a = 4294967296 := h
    have h1 := h'.1
    have h2 := h'.2.1
    have := t' q (by simp)
    omega
  | q :: Q, [], a, _, h, h', _, _, _, _, t, _ => by
    have h' : a = 4294967296 := h'
    have h1 := h.1
    have h2 := h.2.1
    have := t q (by simp)
    omega
  | q :: Q, q' :: Q', a, ha, h, h', e, e', d, d', t, t' => by
    obtain ⟨h1, h2, h3⟩ := h
    obtain ⟨h1', h2', h3'⟩ := h'
    have tq := t q (by simp)
    have tq' := t' q' (by simp)
    have b3 := h3.bound.1
    have eqhi : q.1.2 = q'.1.2 := by
      rcases Int.lt_trichotomy q.1.2 q'.1.2 with hlt | heq | hgt
      · exfalso
        cases Q with
        | nil => have h3 : q.1.2 + 1 = 4294967296 := h3; omega
        | cons r Q =>
          have hr := d r (by simp)
          have hr1 : r.1.1 = q.1.2 + 1 := h3.1
          rw [hr1] at hr
          rcases hr with hr | hr | hr
          · omega
          · omega
          · have := inOf_edge hr
            rw [show q.1.2 + 1 - 1 = q.1.2 by omega] at this
            exact this ((e' q' (by simp) _ (by omega) (by omega)).symm.trans (e' q' (by simp) _ (by omega) (by omega)))
      · exact heq
      · exfalso
        cases Q' with
        | nil => have h3' : q'.1.2 + 1 = 4294967296 := h3'; omega
        | cons r Q' =>
          have hr := d' r (by simp)
          have hr1 : r.1.1 = q'.1.2 + 1 := h3'.1
          rw [hr1] at hr
          rcases hr with hr | hr | hr
          · omega
          · omega
          · have := inOf_edge hr
            rw [show q'.1.2 + 1 - 1 = q'.1.2 by omega] at this
            exact this ((e q (by simp) _ (by omega) (by omega)).symm.trans (e q (by simp) _ (by omega) (by omega)))
    have eq : q = q' := by
      refine Prod.ext (Prod.ext (h1.trans h1'.symm) eqhi) ?_
      exact (e q (by simp) a (by omega) (by omega)).trans (e' q' (by simp) a (by omega) (by omega)).symm
    subst eq
    rw [chain_unique (by omega) h3 h3' (fun x hx => e x (by simp [hx])) (fun x hx => e' x (by simp [hx])) (fun x hx => d x (by simp [hx])) (fun x hx => d' x (by simp [hx])) (fun x hx => t x (by simp [hx])) (fun x hx => t' x (by simp [hx]))]
theorem PParts.unique {S : List (List Spn)} {Q Q' : List (Spn × List Nat)} (h : PParts S 4294967296 Q) (h' : PParts S 4294967296 Q') : Q = Q' :=
  chain_unique (Int.le_refl 0) h.chain h'.chain h.each h'.each h.edge h'.edge h.top h'.top

theorem spAt_block {w : World} {b : Nat} {L : List Spn} (h : w.heap[b]? = some (.cells (spCells L).toArray 46 (0, 0))) : SpAt w (some ⟨b, 0, none⟩) L := by
  refine .inr ⟨b, 0, rfl, lt_of_block h, fun i hi => ?_⟩
  obtain ⟨a1, a2⟩ := spCells_get L i hi
  rw [Nat.zero_add]
  refine ⟨?_, ?_⟩
  · rw [cell_of_row w _ _ _ _ _ h]; simpa using a1
  · rw [cell_of_row w _ _ _ _ _ h]; simpa using a2
/-- What came out: a list, new or not. -/
structure Got (w : World) (ao : Option Addr) (L : List Spn) : Prop where
  at' : SpAt w ao L
  lt : ∀ x, ao = some x → x.block < w.heap.size
theorem Got.below {w w' : World} {ao : Option Addr} {L : List Spn} (h : Got w ao L) (hb : Below w.heap.size w w') : Got w' ao L := ⟨h.at'.below hb, fun x hx => Nat.lt_of_lt_of_le (h.lt x hx) hb.size⟩
theorem make_is (ao : Option Addr) (cap : Nat) (L M : List Spn) (w : World) (hl : L.length ≤ 4294967296) (hat : SpAt w ao L) (hb : ∀ s ∈ L, Bnd s) (hM : IsSet M) (hm : ∀ n, memB n M = memB n L) :
    Calls Try.prog 14 #[.slice ao L.length cap] w fun e w' => ∃ a' c', e = .returned (.tuple #[.slice a' M.length c', .int .i64 0]) ∧ Got w' a' M ∧ Below w.heap.size w w' := by
  refine (make_any ao cap L w hl hat).mono ?_
  rintro e w' ⟨b1, ⟨_, v, M', rfl, o, s, m, _⟩ | ⟨h, _⟩⟩
  · have : M' = M := IsSet.unique s hM (fun n => (m n).trans (hm n).symm)
    subst this
    obtain ⟨a', c', rfl, h1, h2⟩ := o.shape
    exact ⟨a', c', rfl, ⟨h1, fun x hx => (h2 x hx).2⟩, b1⟩
  · exact absurd hb h
theorem not_is (ao : Option Addr) (cap : Nat) (A M : List Spn) (w : World) (hA : IsSet A) (hg : Got w ao A) (hM : IsSet M) (hm : ∀ n, memB n M = (decide (0 ≤ n) && decide (n < 4294967296) && !memB n A)) :
    Calls Try.prog 24 #[.slice ao A.length cap] w fun e w' => ∃ a' c', e = .returned (.tuple #[.slice a' M.length c', .int .i64 0]) ∧ Got w' a' M ∧ Below w.heap.size w w' := by
  refine (not_any ao cap A w hg.at' hg.lt (isSet_length hA)).mono ?_
  rintro e w' ⟨b1, ⟨_, v, M', rfl, o, u⟩ | ⟨h, _⟩⟩
  · have : M' = M := IsSet.unique u.set hM (fun n => by rw [u.says, hm]; simp [fNot])
    subst this
    obtain ⟨a', c', rfl, h1, h2⟩ := o.shape
    exact ⟨a', c', rfl, ⟨h1, fun x hx => (h2 x hx).2⟩, b1⟩
  · exact absurd (fun L hL => by rw [List.mem_singleton.1 hL]; exact hA) h
def Ma : List Spn := [(3, 5), (7, 20)]
def Mb : List Spn := [(0, 2), (6, 6), (21, 4294967295)]
theorem Ma_set : IsSet Ma := by decide
theorem Mb_set : IsSet Mb := by decide
theorem Ma_mem (n : Int) : memB n Ma = memB n [(7, 9), (3, 4), (5, 5), (9, 20)] := by
  simp only [Ma, memB, List.any_cons, List.any_nil]
  rw [Bool.eq_iff_iff]
  simp only [Bool.or_eq_true, Bool.and_eq_true, decide_eq_true_eq, Bool.or_false]
  omega
theorem Mb_mem (n : Int) : memB n Mb = (decide (0 ≤ n) && decide (n < 4294967296) && !memB n Ma) := by
  simp only [Ma, Mb, memB, List.any_cons, List.any_nil]
  rw [Bool.eq_iff_iff]
  simp only [Bool.or_eq_true, Bool.and_eq_true, decide_eq_true_eq, Bool.or_false, Bool.not_eq_true', Bool.or_eq_false_iff, Bool.and_eq_false_iff, decide_eq_false_iff_not]
  omega
def Qp : List (Spn × List Nat) := [((0, 2), []), ((3, 3), [0]), ((4, 4), [0, 1]), ((5, 5), [0]), ((6, 6), []), ((7, 20), [0]), ((21, 4294967295), [])]
theorem inOf_two (n : Int) (b c : Bool) (hb : memB n Ma = b) (hc : memB n [(4, 4)] = c) : inOf [Ma, [(4, 4)]] n = (if b then [0] else []) ++ (if c then [1] else []) := by
  unfold inOf
  have : List.range [Ma, [(4, 4)]].length = [0, 1] := rfl
  rw [this]
  simp only [List.filter_cons, List.filter_nil, List.getD_cons_zero, List.getD_cons_succ, hb, hc]
  cases b <;> cases c <;> rfl
theorem Qp_parts : PParts [Ma, [(4, 4)]] 4294967296 Qp := by
  refine ⟨by simp [Qp, Chain], ?_, ?_, by decide⟩
  · intro q hq n h1 h2
    have e1 : ∀ b, ((3 ≤ n ∧ n ≤ 5) ∨ (7 ≤ n ∧ n ≤ 20) ↔ b = true) → memB n Ma = b := fun b hb => by
      rw [Bool.eq_iff_iff, ← hb]
      simp [Ma, memB]
    have e2 : ∀ b, ((4 ≤ n ∧ n ≤ 4) ↔ b = true) → memB n [(4, 4)] = b := fun b hb => by
      rw [Bool.eq_iff_iff, ← hb]
      simp [memB]
    simp only [Qp, List.mem_cons, List.not_mem_nil, or_false] at hq
    rcases hq with rfl | rfl | rfl | rfl | rfl | rfl | rfl <;> simp only at h1 h2
    · rw [inOf_two n false false (e1 _ (by simp; omega)) (e2 _ (by simp; omega))]; rfl
    · rw [inOf_two n true false (e1 _ (by simp; omega)) (e2 _ (by simp; omega))]; rfl
    · rw [inOf_two n true true (e1 _ (by simp; omega)) (e2 _ (by simp; omega))]; rfl
    · rw [inOf_two n true false (e1 _ (by simp; omega)) (e2 _ (by simp; omega))]; rfl
    · rw [inOf_two n false false (e1 _ (by simp; omega)) (e2 _ (by simp; omega))]; rfl
    · rw [inOf_two n true false (e1 _ (by simp; omega)) (e2 _ (by simp; omega))]; rfl
    · rw [inOf_two n false false (e1 _ (by simp; omega)) (e2 _ (by simp; omega))]; rfl
  · intro q hq
    simp only [Qp, List.mem_cons, List.not_mem_nil, or_false] at hq
    rcases hq with rfl | rfl | rfl | rfl | rfl | rfl | rfl
    · exact .inl rfl
    · exact .inr (.inr ⟨0, by decide, by decide⟩)
    · exact .inr (.inr ⟨1, by decide, by decide⟩)
    · exact .inr (.inr ⟨1, by decide, by decide⟩)
    · exact .inr (.inr ⟨0, by decide, by decide⟩)
    · exact .inr (.inr ⟨0, by decide, by decide⟩)
    · exact .inr (.inr ⟨0, by decide, by decide⟩)
end Go.Proofs.Ytljagefcgijmlaa
