/-
  Sets of numbers as lists of spans: members, the one form, and that a set has just one. No condition.
-/

namespace Go.Proofs.YtdgoilkgplnhfaaGreat

/-- A span. -/
abbrev Spn := Int × Int
def Bnd (s : Spn) : Prop := 0 ≤ s.1 ∧ s.1 ≤ s.2 ∧ s.2 ≤ 4294967295
instance (s : Spn) : Decidable (Bnd s) := by unfold Bnd; infer_instance
/-- The one form. -/
def IsSet (L : List Spn) : Prop := (∀ s ∈ L, Bnd s) ∧ L.Pairwise (fun s t => s.2 + 2 ≤ t.1)
instance (L : List Spn) : Decidable (IsSet L) := by unfold IsSet; infer_instance
/-- Is a number in one of the spans? -/
def memB (n : Int) (L : List Spn) : Bool := L.any fun s => decide (s.1 ≤ n) && decide (n ≤ s.2)

theorem memB_nil (n : Int) : memB n [] = false := rfl
theorem memB_cons (n : Int) (s : Spn) (L : List Spn) : memB n (s :: L) = ((decide (s.1 ≤ n) && decide (n ≤ s.2)) || memB n L) := rfl
theorem memB_append (n : Int) (L M : List Spn) : memB n (L ++ M) = (memB n L || memB n M) := by simp [memB]
theorem memB_iff (n : Int) (L : List Spn) : memB n L = true ↔ ∃ s ∈ L, s.1 ≤ n ∧ n ≤ s.2 := by simp [memB]
theorem IsSet.nil : IsSet [] := by simp [IsSet]
theorem IsSet.tail {s : Spn} {L : List Spn} (h : IsSet (s :: L)) : IsSet L :=
  ⟨fun t ht => h.1 t (List.mem_cons_of_mem _ ht), (List.pairwise_cons.1 h.2).2⟩
theorem IsSet.head {s : Spn} {L : List Spn} (h : IsSet (s :: L)) : Bnd s := h.1 s (List.mem_cons_self ..)
/-- What lies behind the first span is at least 2 above it. -/
theorem IsSet.above {s : Spn} {L : List Spn} (h : IsSet (s :: L)) {n : Int} (hn : memB n L = true) : s.2 + 2 ≤ n := by
  obtain ⟨t, ht, h1, h2⟩ := (memB_iff n L).1 hn
  have := (List.pairwise_cons.1 h.2).1 t ht
  omega
theorem IsSet.range {L : List Spn} (h : IsSet L) {n : Int} (hn : memB n L = true) : 0 ≤ n ∧ n ≤ 4294967295 := by
  obtain ⟨t, ht, h1, h2⟩ := (memB_iff n L).1 hn
  have := h.1 t ht
  unfold Bnd at this
  omega
theorem memB_false_of_above {s : Spn} {L : List Spn} (h : IsSet (s :: L)) {n : Int} (hn : n < s.2 + 2) : memB n L = false := by
  cases e : memB n L with
  | false => rfl
  | true => have := h.above e; omega

/-- A set has just one form. -/
theorem IsSet.unique : ∀ {L M : List Spn}, IsSet L → IsSet M → (∀ n, memB n L = memB n M) → L = M
  | [], [], _, _, _ => rfl
  | [], t :: M, _, hM, h => by
    have hb := hM.head
    unfold Bnd at hb
    have := h t.1
    simp [memB_cons, memB_nil] at this
    omega
  | s :: L, [], hL, _, h => by
    have hb := hL.head
    unfold Bnd at hb
    have := h s.1
    simp [memB_cons, memB_nil] at this
    omega
  | s :: L, t :: M, hL, hM, h => by
    have hb := hL.head
    have hc := hM.head
    unfold Bnd at hb hc
    have at1 : ∀ n, n < s.2 + 2 → n < t.2 + 2 → ((s.1 ≤ n ∧ n ≤ s.2) ↔ (t.1 ≤ n ∧ n ≤ t.2)) := by
      intro n h1 h2
      have := h n
      rw [memB_cons, memB_cons, memB_false_of_above hL h1, memB_false_of_above hM h2, Bool.eq_iff_iff] at this
      simpa using this
    have e1 : s.1 = t.1 := by
      rcases Int.lt_trichotomy s.1 t.1 with hlt | heq | hgt
      · exfalso
        have := at1 s.1 (by omega) (by omega)
        omega
      · exact heq
      · exfalso
        have := at1 t.1 (by omega) (by omega)
        omega
    have e2 : s.2 = t.2 := by
      rcases Int.lt_trichotomy s.2 t.2 with hlt | heq | hgt
      · exfalso
        have := at1 (s.2 + 1) (by omega) (by omega)
        omega
      · exact heq
      · exfalso
        have := at1 (t.2 + 1) (by omega) (by omega)
        omega
    have e : s = t := Prod.ext e1 e2
    subst e
    have e' : L = M := IsSet.unique hL.tail hM.tail (fun n => by
      by_cases hn : n < s.2 + 2
      · rw [memB_false_of_above hL hn, memB_false_of_above hM hn]
      · have := h n
        rw [memB_cons, memB_cons] at this
        simpa [show ¬ n ≤ s.2 by omega] using this)
    rw [e']

theorem IsSet.append_one {L : List Spn} {s : Spn} (h : IsSet L) (hs : Bnd s) (hl : ∀ t ∈ L, t.2 + 2 ≤ s.1) : IsSet (L ++ [s]) := by
  refine ⟨fun t ht => ?_, ?_⟩
  · rcases List.mem_append.1 ht with h1 | h1
    · exact h.1 t h1
    · rw [List.mem_singleton.1 h1]; exact hs
  · rw [List.pairwise_append]
    exact ⟨h.2, List.pairwise_singleton .., fun a ha b hb => by rw [List.mem_singleton.1 hb]; exact hl a ha⟩

/-- joined: a set with one more span, whose Lo is below none of the set's. -/
def joinL (A : List Spn) (s : Spn) : List Spn :=
  match A.getLast? with
  | none => [s]
  | some z => if s.1 > z.2 + 1 then A ++ [s] else A.dropLast ++ [(z.1, max z.2 s.2)]
theorem joinL_nil (s : Spn) : joinL [] s = [s] := rfl
theorem joinL_last (A : List Spn) (z s : Spn) : joinL (A ++ [z]) s = if s.1 > z.2 + 1 then A ++ [z] ++ [s] else A ++ [(z.1, max z.2 s.2)] := by
  simp [joinL]

theorem joinL_set {A : List Spn} {s : Spn} (h : IsSet A) (hs : Bnd s) (hl : ∀ t ∈ A, t.1 ≤ s.1) : IsSet (joinL A s) := by
  rcases List.eq_nil_or_concat A with rfl | ⟨B, z, rfl⟩
  · rw [joinL_nil]; exact ⟨fun t ht => by rw [List.mem_singleton.1 ht]; exact hs, List.pairwise_singleton ..⟩
  · simp only [List.concat_eq_append] at h hl ⊢
    rw [joinL_last]
    have hz : Bnd z := h.1 z (by simp)
    have hzs := hl z (by simp)
    have hp := List.pairwise_append.1 h.2
    split
    · rename_i hgt
      refine h.append_one hs fun t ht => ?_
      rcases List.mem_append.1 ht with h1 | h1
      · have := hp.2.2 t h1 z (by simp)
        unfold Bnd at hz
        omega
      · rw [List.mem_singleton.1 h1]; omega
    · refine IsSet.append_one ⟨fun t ht => h.1 t (by simp [ht]), hp.1⟩ ?_ fun t ht => hp.2.2 t ht z (by simp)
      unfold Bnd at *
      simp only
      omega
theorem joinL_mem {A : List Spn} {s : Spn} (hl : ∀ t ∈ A, t.1 ≤ s.1) (hA : ∀ t ∈ A, t.1 ≤ t.2) (n : Int) : memB n (joinL A s) = (memB n A || (decide (s.1 ≤ n) && decide (n ≤ s.2))) := by
  rcases List.eq_nil_or_concat A with rfl | ⟨B, z, rfl⟩
  · rw [joinL_nil, memB_cons, memB_nil]; simp
  · simp only [List.concat_eq_append] at hl hA ⊢
    rw [joinL_last]
    have hzs := hl z (by simp)
    have hz := hA z (by simp)
    split
    · rw [memB_append _ (B ++ [z]), memB_cons, memB_nil]; simp
    · rename_i hgt
      rw [memB_append, memB_append, memB_cons, memB_nil, memB_cons, memB_nil, Bool.or_false, Bool.or_false, Bool.or_assoc]
      congr 1
      rw [Bool.eq_iff_iff]
      simp only [Bool.and_eq_true, Bool.or_eq_true, decide_eq_true_eq]
      omega
theorem joinL_lo {A : List Spn} {s : Spn} {m : Int} (hl : ∀ t ∈ A, t.1 ≤ m) (hs : s.1 ≤ m) : ∀ t ∈ joinL A s, t.1 ≤ m := by
  rcases List.eq_nil_or_concat A with rfl | ⟨B, z, rfl⟩
  · intro t ht; rw [joinL_nil, List.mem_singleton] at ht; rw [ht]; exact hs
  · simp only [List.concat_eq_append] at hl ⊢
    rw [joinL_last]
    intro t ht
    split at ht
    · rcases List.mem_append.1 ht with h1 | h1
      · exact hl t h1
      · rw [List.mem_singleton.1 h1]; exact hs
    · rcases List.mem_append.1 ht with h1 | h1
      · exact hl t (by simp [h1])
      · rw [List.mem_singleton.1 h1]; exact hl z (by simp)
theorem joinL_length (A : List Spn) (s : Spn) : (joinL A s).length ≤ A.length + 1 := by
  rcases List.eq_nil_or_concat A with rfl | ⟨B, z, rfl⟩
  · simp [joinL_nil]
  · simp only [List.concat_eq_append]
    rw [joinL_last]
    split <;> simp

/-- All spans, by rising Lo, one by one. -/
def joinAll (S : List Spn) : List Spn := S.foldl joinL []
theorem joinAll_snoc (S : List Spn) (s : Spn) : joinAll (S ++ [s]) = joinL (joinAll S) s := by simp [joinAll]
theorem joinAll_spec : ∀ (n : Nat) (S : List Spn), S.length = n → (∀ s ∈ S, Bnd s) → S.Pairwise (fun s t => s.1 ≤ t.1) →
    IsSet (joinAll S) ∧ (∀ n, memB n (joinAll S) = memB n S) ∧ ∀ m, (∀ s ∈ S, s.1 ≤ m) → ∀ t ∈ joinAll S, t.1 ≤ m := by
  intro n
  induction n with
  | zero => intro S hS _ _; rw [List.length_eq_zero_iff.1 hS]; exact ⟨IsSet.nil, fun _ => rfl, fun _ _ t ht => by simp [joinAll] at ht⟩
  | succ n ih =>
    intro S hS hb hp
    rcases List.eq_nil_or_concat S with rfl | ⟨B, z, rfl⟩
    · simp at hS
    simp only [List.concat_eq_append] at hS hb hp ⊢
    have hq := List.pairwise_append.1 hp
    obtain ⟨i1, i2, i3⟩ := ih B (by simpa using hS) (fun s hs => hb s (by simp [hs])) hq.1
    have hz : Bnd z := hb z (by simp)
    have hl := i3 z.1 (fun s hs => hq.2.2 s hs z (by simp))
    rw [joinAll_snoc]
    refine ⟨joinL_set i1 hz hl, fun n => ?_, fun m hm => joinL_lo (i3 m (fun s hs => hm s (by simp [hs]))) (hm z (by simp))⟩
    unfold Bnd at hz
    rw [joinL_mem hl (fun t ht => by have := i1.1 t ht; unfold Bnd at this; omega), i2, memB_append, memB_cons, memB_nil, Bool.or_false]
theorem joinAll_length (S : List Spn) : (joinAll S).length ≤ S.length := by
  suffices h : ∀ (S A : List Spn), (S.foldl joinL A).length ≤ A.length + S.length by simpa [joinAll] using h S []
  intro S
  induction S with
  | nil => intro A; simp
  | cons s S ih => intro A; have := ih (joinL A s); have := joinL_length A s; simp only [List.foldl_cons, List.length_cons]; omega

/-- How many numbers. -/
def sizeL : List Spn → Int
  | [] => 0
  | s :: L => (s.2 - s.1 + 1) + sizeL L
end Go.Proofs.YtdgoilkgplnhfaaGreat
/-
  The ends of sets, rising; what lies between two of them; the parts of all numbers. No condition.
-/
namespace Go.Proofs.YtdgoilkgplnhfaaGreat

/-- An end: the number, and the set's place. -/
abbrev End := Int × Nat
def endsL : List Spn → Nat → List End
  | [], _ => []
  | s :: L, k => (s.1, k) :: (s.2 + 1, k) :: endsL L k
theorem endsL_length (L : List Spn) (k : Nat) : (endsL L k).length = 2 * L.length := by
  induction L with
  | nil => rfl
  | cons s L ih => simp only [endsL, List.length_cons, ih]; omega
theorem endsL_get (L : List Spn) (k : Nat) : ∀ g, g < 2 * L.length → (endsL L k)[g]? = some ((if g % 2 = 1 then (L.getD (g / 2) (0, 0)).2 + 1 else (L.getD (g / 2) (0, 0)).1), k) := by
  induction L with
  | nil => intro g hg; simp at hg
  | cons s L ih =>
    intro g hg
    match g with
    | 0 => simp [endsL]
    | 1 => simp [endsL]
    | g + 2 =>
      have := ih g (by simp only [List.length_cons] at hg; omega)
      simp only [endsL, List.getElem?_cons_succ, this]
      rw [show (g + 2) % 2 = g % 2 by omega, show (g + 2) / 2 = g / 2 + 1 by omega]
      simp
theorem endsL_drop (L : List Spn) (k g : Nat) (hg : g < 2 * L.length) : (endsL L k).drop g = ((if g % 2 = 1 then (L.getD (g / 2) (0, 0)).2 + 1 else (L.getD (g / 2) (0, 0)).1), k) :: (endsL L k).drop (g + 1) := by
  have h1 : g < (endsL L k).length := by rw [endsL_length]; exact hg
  have h2 := endsL_get L k g hg
  rw [List.getElem?_eq_getElem h1] at h2
  rw [List.drop_eq_getElem_cons h1, Option.some.inj h2]
theorem endsL_done (L : List Spn) (k : Nat) : (endsL L k).drop (2 * L.length) = [] := List.drop_eq_nil_of_le (by rw [endsL_length]; exact Nat.le_refl _)
theorem endsL_set (L : List Spn) (k : Nat) : ∀ e ∈ endsL L k, e.2 = k := by
  induction L with
  | nil => intro e he; simp [endsL] at he
  | cons s L ih =>
    intro e he
    simp only [endsL, List.mem_cons] at he
    rcases he with rfl | rfl | h
    · rfl
    · rfl
    · exact ih e h
/-- All ends of a set lie above what it is above. -/
theorem endsL_above (L : List Spn) (k : Nat) (m : Int) (h : ∀ s ∈ L, m ≤ s.1 ∧ s.1 ≤ s.2) : ∀ e ∈ endsL L k, m ≤ e.1 := by
  induction L with
  | nil => intro e he; simp [endsL] at he
  | cons s L ih =>
    intro e he
    have hs := h s (by simp)
    simp only [endsL, List.mem_cons] at he
    rcases he with rfl | rfl | h'
    · exact hs.1
    · simp only; omega
    · exact ih (fun t ht => h t (by simp [ht])) e h'
theorem endsL_range (L : List Spn) (k : Nat) (h : ∀ s ∈ L, Bnd s) : ∀ e ∈ endsL L k, 0 ≤ e.1 ∧ e.1 ≤ 4294967296 := by
  induction L with
  | nil => intro e he; simp [endsL] at he
  | cons s L ih =>
    intro e he
    have hs := h s (by simp)
    unfold Bnd at hs
    simp only [endsL, List.mem_cons] at he
    rcases he with rfl | rfl | h'
    · simp only; omega
    · simp only; omega
    · exact ih (fun t ht => h t (by simp [ht])) e h'
theorem endsL_sorted (L : List Spn) (k : Nat) (h : IsSet L) : (endsL L k).Pairwise (fun a b => a.1 ≤ b.1) := by
  induction L with
  | nil => simp [endsL]
  | cons s L ih =>
    have hs := h.head
    unfold Bnd at hs
    have hab : ∀ e ∈ endsL L k, s.2 + 2 ≤ e.1 := endsL_above L k _ (fun t ht => ⟨(List.pairwise_cons.1 h.2).1 t ht, (h.tail.1 t ht).2.1⟩)
    simp only [endsL, List.pairwise_cons, List.mem_cons]
    refine ⟨?_, ?_, ih h.tail⟩
    · rintro e (rfl | he)
      · simp only; omega
      · have := hab e he; omega
    · intro e he
      have := hab e he
      omega
/-- At an end a set begins to have numbers, or no longer has them. -/
theorem endsL_edge (L : List Spn) (k : Nat) (h : IsSet L) : ∀ e ∈ endsL L k, memB (e.1 - 1) L ≠ memB e.1 L := by
  induction L with
  | nil => intro e he; simp [endsL] at he
  | cons s L ih =>
    have hs := h.head
    unfold Bnd at hs
    intro e he
    simp only [endsL, List.mem_cons] at he
    rcases he with rfl | rfl | h'
    · simp only [memB_cons]
      rw [memB_false_of_above h (n := s.1 - 1) (by omega), memB_false_of_above h (n := s.1) (by omega)]
      simp [show ¬ s.1 ≤ s.1 - 1 by omega, hs.2.1]
    · simp only [memB_cons]
      rw [memB_false_of_above h (n := s.2 + 1 - 1) (by omega), memB_false_of_above h (n := s.2 + 1) (by omega)]
      simp [show ¬ s.2 + 1 ≤ s.2 by omega, hs.2.1]
    · have hab := endsL_above L k _ (fun t ht => ⟨(List.pairwise_cons.1 h.2).1 t ht, (h.tail.1 t ht).2.1⟩) e h'
      have := ih h.tail e h'
      simp only [memB_cons]
      simpa [show ¬ e.1 - 1 ≤ s.2 by omega, show ¬ e.1 ≤ s.2 by omega] using this

def oddB (n : Nat) : Bool := n % 2 == 1
theorem oddB_add_one (n : Nat) : oddB (n + 1) = !oddB n := by
  unfold oddB
  rcases Nat.mod_two_eq_zero_or_one n with h | h <;> simp [h, Nat.add_mod]
/-- How many ends of the k-th set stand up to n. -/
def cntE (es : List End) (k : Nat) (n : Int) : Nat := es.countP fun e => decide (e.2 = k) && decide (e.1 ≤ n)
theorem cntE_cons (e : End) (es : List End) (k : Nat) (n : Int) : cntE (e :: es) k n = cntE es k n + if e.2 = k ∧ e.1 ≤ n then 1 else 0 := by
  unfold cntE
  rw [List.countP_cons]
  simp
theorem cntE_zero {es : List End} {k : Nat} {n : Int} (h : ∀ e ∈ es, n < e.1) : cntE es k n = 0 := by
  unfold cntE
  rw [List.countP_eq_zero]
  intro e he
  have := h e he
  simp
  omega
theorem cntE_other {es : List End} {k : Nat} {n : Int} (h : ∀ e ∈ es, e.2 ≠ k) : cntE es k n = 0 := by
  unfold cntE
  rw [List.countP_eq_zero]
  intro e he
  have := h e he
  simp [this]
theorem cntE_append (a b : List End) (k : Nat) (n : Int) : cntE (a ++ b) k n = cntE a k n + cntE b k n := by simp [cntE]
theorem cntE_perm {a b : List End} (h : a.Perm b) (k : Nat) (n : Int) : cntE a k n = cntE b k n := h.countP_eq _
theorem parity (L : List Spn) (k : Nat) (h : IsSet L) (n : Int) : oddB (cntE (endsL L k) k n) = memB n L := by
  induction L with
  | nil => rfl
  | cons s L ih =>
    have hs := h.head
    unfold Bnd at hs
    have hab := endsL_above L k _ (fun t ht => ⟨(List.pairwise_cons.1 h.2).1 t ht, (h.tail.1 t ht).2.1⟩)
    simp only [endsL, cntE_cons, memB_cons, true_and]
    by_cases h1 : n ≤ s.2
    · rw [cntE_zero (fun e he => by have := hab e he; omega), memB_false_of_above h (by omega)]
      by_cases h2 : s.1 ≤ n
      · simp [h1, h2, show ¬ s.2 + 1 ≤ n by omega, oddB]
      · simp [h2, show ¬ s.2 + 1 ≤ n by omega, oddB]
    · rw [if_pos (show s.2 + 1 ≤ n by omega), if_pos (show s.1 ≤ n by omega), oddB_add_one, oddB_add_one, ih h.tail]
      simp [h1]

/-- All ends of sets whose places begin with first. -/
def allEnds : List (List Spn) → Nat → List End
  | [], _ => []
  | L :: S, k => endsL L k ++ allEnds S (k + 1)
theorem allEnds_append (A B : List (List Spn)) (k : Nat) : allEnds (A ++ B) k = allEnds A k ++ allEnds B (k + A.length) := by
  induction A generalizing k with
  | nil => simp [allEnds]
  | cons L A ih => simp only [List.cons_append, allEnds, ih, List.length_cons, List.append_assoc]; rw [show k + 1 + A.length = k + (A.length + 1) by omega]
theorem allEnds_mem (S : List (List Spn)) (k : Nat) : ∀ e ∈ allEnds S k, k ≤ e.2 ∧ e.2 < k + S.length ∧ e ∈ endsL (S.getD (e.2 - k) []) e.2 := by
  induction S generalizing k with
  | nil => intro e he; simp [allEnds] at he
  | cons L S ih =>
    intro e he
    simp only [allEnds, List.mem_append] at he
    rcases he with h | h
    · have := endsL_set L k e h
      subst this
      simp [h]
    · obtain ⟨h1, h2, h3⟩ := ih (k + 1) e h
      refine ⟨by omega, by simp only [List.length_cons]; omega, ?_⟩
      obtain ⟨j, hj⟩ : ∃ j, e.2 - k = j + 1 := ⟨e.2 - k - 1, by omega⟩
      rw [hj, List.getD_cons_succ]
      rwa [show e.2 - (k + 1) = j by omega] at h3
theorem allEnds_cnt (S : List (List Spn)) (k j : Nat) (hj : j < S.length) (n : Int) : cntE (allEnds S k) (k + j) n = cntE (endsL (S.getD j []) (k + j)) (k + j) n := by
  induction S generalizing k j with
  | nil => simp at hj
  | cons L S ih =>
    simp only [allEnds, cntE_append]
    cases j with
    | zero =>
      rw [cntE_other (es := allEnds S (k + 1)) (fun e he => by have := (allEnds_mem S (k + 1) e he).1; omega)]
      simp
    | succ j =>
      rw [cntE_other (es := endsL L k) (fun e he => by have := endsL_set L k e he; omega)]
      have := ih (k + 1) j (by simpa using hj)
      rw [show k + 1 + j = k + (j + 1) by omega] at this
      simpa using this

/-- What is known of the numbers from lo on. -/
structure PInv (S : List (List Spn)) (lo : Int) (ins : List Bool) (es : List End) : Prop where
  len : ins.length = S.length
  rng : 0 ≤ lo ∧ lo ≤ 4294967296
  sorted : es.Pairwise (fun a b => a.1 ≤ b.1)
  each : ∀ e ∈ es, lo ≤ e.1 ∧ e.1 ≤ 4294967296 ∧ e.2 < S.length ∧ memB (e.1 - 1) (S.getD e.2 []) ≠ memB e.1 (S.getD e.2 [])
  says : ∀ k, k < S.length → ∀ n, lo ≤ n → memB n (S.getD k []) = ((ins.getD k false) ^^ oddB (cntE es k n))
theorem PInv.start {S : List (List Spn)} {es : List End} (hS : ∀ L ∈ S, IsSet L) (hs : es.Pairwise (fun a b => a.1 ≤ b.1)) (hp : es.Perm (allEnds S 0)) : PInv S 0 (List.replicate S.length false) es := by
  refine ⟨by simp, by omega, hs, fun e he => ?_, fun k hk n hn => ?_⟩
  · obtain ⟨h1, h2, h3⟩ := allEnds_mem S 0 e (hp.mem_iff.1 he)
    have hlt : e.2 < S.length := by omega
    have hi : IsSet (S.getD e.2 []) := hS _ (by rw [List.getD_eq_getElem?_getD, List.getElem?_eq_getElem hlt]; exact List.getElem_mem hlt)
    rw [Nat.sub_zero] at h3
    have hr := endsL_range _ _ hi.1 e h3
    exact ⟨hr.1, hr.2, hlt, endsL_edge _ _ hi e h3⟩
  · have hi : IsSet (S.getD k []) := hS _ (by rw [List.getD_eq_getElem?_getD, List.getElem?_eq_getElem hk]; exact List.getElem_mem hk)
    have hc := allEnds_cnt S 0 k hk n
    rw [Nat.zero_add] at hc
    rw [cntE_perm hp, hc, parity _ _ hi]
    simp [List.getD_eq_getElem?_getD, hk]
/-- An end that stands at lo. -/
theorem PInv.turn {S : List (List Spn)} {lo : Int} {ins : List Bool} {e : End} {es : List End} (h : PInv S lo ins (e :: es)) (he : e.1 = lo) : PInv S lo (ins.set e.2 (!(ins.getD e.2 false))) es := by
  refine ⟨by simp [h.len], h.rng, (List.pairwise_cons.1 h.sorted).2, fun x hx => h.each x (by simp [hx]), fun k hk n hn => ?_⟩
  have := h.says k hk n hn
  rw [this, cntE_cons]
  have hl := h.len
  by_cases hke : e.2 = k
  · subst hke
    rw [if_pos ⟨rfl, by omega⟩, oddB_add_one]
    simp [List.getD_eq_getElem?_getD, show e.2 < ins.length by omega]
  · rw [if_neg (fun hh => hke hh.1)]
    simp [List.getD_eq_getElem?_getD, List.getElem?_set_ne hke]
/-- The hi of the piece that begins with lo. -/
def hiOf (es : List End) : Int := match es with
  | [] => 4294967295
  | e :: _ => e.1 - 1
/-- A piece: its numbers are in the same sets. -/
structure Piece (S : List (List Spn)) (lo hi : Int) (ins : List Bool) : Prop where
  len : ins.length = S.length
  low : 0 ≤ lo
  le : lo ≤ hi
  top : hi ≤ 4294967295
  says : ∀ k, k < S.length → ∀ n, lo ≤ n → n ≤ hi → memB n (S.getD k []) = ins.getD k false
/-- At lo a set changes, or it is the first number, or behind the last one. -/
def Edge (S : List (List Spn)) (lo : Int) : Prop := lo = 0 ∨ lo = 4294967296 ∨ ∃ k, k < S.length ∧ memB (lo - 1) (S.getD k []) ≠ memB lo (S.getD k [])
theorem PInv.piece {S : List (List Spn)} {lo : Int} {ins : List Bool} {es : List End} (h : PInv S lo ins es) (hlo : lo ≤ 4294967295) (hh : ∀ e es', es = e :: es' → e.1 ≠ lo) :
    Piece S lo (hiOf es) ins ∧ PInv S (hiOf es + 1) ins es ∧ Edge S (hiOf es + 1) := by
  have hall : ∀ e ∈ es, hiOf es < e.1 := by
    cases es with
    | nil => intro e he; simp at he
    | cons e es =>
      intro x hx
      simp only [hiOf]
      rcases List.mem_cons.1 hx with rfl | hx
      · omega
      · have := (List.pairwise_cons.1 h.sorted).1 x hx
        omega
  have h1 : lo ≤ hiOf es ∧ hiOf es ≤ 4294967295 := by
    cases es with
    | nil => simp only [hiOf]; omega
    | cons e es =>
      have := h.each e (by simp)
      have := hh e es rfl
      simp only [hiOf]
      omega
  have hl := h.rng
  refine ⟨⟨h.len, hl.1, h1.1, h1.2, fun k hk n h2 h3 => ?_⟩, ⟨h.len, by omega, h.sorted, fun e he => ?_, fun k hk n hn => h.says k hk n (by omega)⟩, ?_⟩
  · rw [h.says k hk n h2, cntE_zero (fun e he => by have := hall e he; omega)]
    simp [oddB]
  · have h5 := h.each e he
    have := hall e he
    exact ⟨by omega, h5.2⟩
  · cases es with
    | nil => exact .inr (.inl rfl)
    | cons e es =>
      have := h.each e (by simp)
      simp only [hiOf]
      rw [show e.1 - 1 + 1 = e.1 by omega]
      exact .inr (.inr ⟨e.2, this.2.2.1, this.2.2.2⟩)
end Go.Proofs.YtdgoilkgplnhfaaGreat
