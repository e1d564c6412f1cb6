/-
  Sets of numbers as lists of spans: members, the one form, and that a set has just one. No condition.
-/

namespace Go.Proofs.YthgikaklcglpiaaGreatDoor.L5
/-- A span. -/
abbrev Spn := Int × Int
def Bnd (s : Spn) : Prop := 0 ≤ s.1 ∧ s.1 ≤ s.2 ∧ s.2 ≤ 4294967295
instance (s : Spn) : Decidable (Bnd s) := by unfold Bnd; infer_instance
/-- The one form. -/
def IsSet (L : List Spn) : Prop := (∀ s ∈ L, Bnd s) ∧ L.Pairwise (fun s t => s.2 + 2 ≤ t.1)
instance (L : List Spn) : Decidable (IsSet L) := by unfold IsSet; infer_instance
/-- Is a number in one of the spans? -/
def memB (n : Int) (L : List Spn) : Bool := L.any fun s => decide (s.1 ≤ n) && decide (n ≤ s.2)

theorem memB_nil (n : Int) : memB n [] = false := rfl
theorem memB_cons (n : Int) (s : Spn) (L : List Spn) : memB n (s :: L) = ((decide (s.1 ≤ n) && decide (n ≤ s.2)) || memB n L) := rfl
theorem memB_append (n : Int) (L M : List Spn) : memB n (L ++ M) = (memB n L || memB n M) := by simp [memB]
theorem memB_iff (n : Int) (L : List Spn) : memB n L = true ↔ ∃ s ∈ L, s.1 ≤ n ∧ n ≤ s.2 := by simp [memB]
theorem IsSet.nil : IsSet [] := by simp [IsSet]
theorem IsSet.head {s : Spn} {L : List Spn} (h : IsSet (s :: L)) : Bnd s := h.1 s (List.mem_cons_self ..)
theorem IsSet.range {L : List Spn} (h : IsSet L) {n : Int} (hn : memB n L = true) : 0 ≤ n ∧ n ≤ 4294967295 := by
  obtain ⟨t, ht, h1, h2⟩ := (memB_iff n L).1 hn
  have := h.1 t ht
  unfold Bnd at this
  omega
theorem IsSet.append_one {L : List Spn} {s : Spn} (h : IsSet L) (hs : Bnd s) (hl : ∀ t ∈ L, t.2 + 2 ≤ s.1) : IsSet (L ++ [s]) := by
  refine ⟨fun t ht => ?_, ?_⟩
  · rcases List.mem_append.1 ht with h1 | h1
    · exact h.1 t h1
    · rw [List.mem_singleton.1 h1]; exact hs
  · rw [List.pairwise_append]
    exact ⟨h.2, List.pairwise_singleton .., fun a ha b hb => by rw [List.mem_singleton.1 hb]; exact hl a ha⟩

/-- joined: a set with one more span, whose Lo is below none of the set's. -/
def joinL (A : List Spn) (s : Spn) : List Spn :=
  match A.getLast? with
  | none => [s]
  | some z => if s.1 > z.2 + 1 then A ++ [s] else A.dropLast ++ [(z.1, max z.2 s.2)]
theorem joinL_nil (s : Spn) : joinL [] s = [s] := rfl
theorem joinL_last (A : List Spn) (z s : Spn) : joinL (A ++ [z]) s = if s.1 > z.2 + 1 then A ++ [z] ++ [s] else A ++ [(z.1, max z.2 s.2)] := by
  simp [joinL]

theorem joinL_set {A : List Spn} {s : Spn} (h : IsSet A) (hs : Bnd s) (hl : ∀ t ∈ A, t.1 ≤ s.1) : IsSet (joinL A s) := by
  rcases List.eq_nil_or_concat A with rfl | ⟨B, z, rfl⟩
  · rw [joinL_nil]; exact ⟨fun t ht => by rw [List.mem_singleton.1 ht]; exact hs, List.pairwise_singleton ..⟩
  · simp only [List.concat_eq_append] at h hl ⊢
    rw [joinL_last]
    have hz : Bnd z := h.1 z (by simp)
    have hzs := hl z (by simp)
    have hp := List.pairwise_append.1 h.2
    split
    · rename_i hgt
      refine h.append_one hs fun t ht => ?_
      rcases List.mem_append.1 ht with h1 | h1
      · have := hp.2.2 t h1 z (by simp)
        unfold Bnd at hz
        omega
      · rw [List.mem_singleton.1 h1]; omega
    · refine IsSet.append_one ⟨fun t ht => h.1 t (by simp [ht]), hp.1⟩ ?_ fun t ht => hp.2.2 t ht z (by simp)
      unfold Bnd at *
      simp only
      omega
theorem joinL_mem {A : List Spn} {s : Spn} (hl : ∀ t ∈ A, t.1 ≤ s.1) (hA : ∀ t ∈ A, t.1 ≤ t.2) (n : Int) : memB n (joinL A s) = (memB n A || (decide (s.1 ≤ n) && decide (n ≤ s.2))) := by
  rcases List.eq_nil_or_concat A with rfl | ⟨B, z, rfl⟩
  · rw [joinL_nil, memB_cons, memB_nil]; simp
  · simp only [List.concat_eq_append] at hl hA ⊢
    rw [joinL_last]
    have hzs := hl z (by simp)
    have hz := hA z (by simp)
    split
    · rw [memB_append _ (B ++ [z]), memB_cons, memB_nil]; simp
    · rename_i hgt
      rw [memB_append, memB_append, memB_cons, memB_nil, memB_cons, memB_nil, Bool.or_false, Bool.or_false, Bool.or_assoc]
      congr 1
      rw [Bool.eq_iff_iff]
      simp only [Bool.and_eq_true, Bool.or_eq_true, decide_eq_true_eq]
      omega
theorem joinL_lo {A : List Spn} {s : Spn} {m : Int} (hl : ∀ t ∈ A, t.1 ≤ m) (hs : s.1 ≤ m) : ∀ t ∈ joinL A s, t.1 ≤ m := by
  rcases List.eq_nil_or_concat A with rfl | ⟨B, z, rfl⟩
  · intro t ht; rw [joinL_nil, List.mem_singleton] at ht; rw [ht]; exact hs
  · simp only [List.concat_eq_append] at hl ⊢
    rw [joinL_last]
    intro t ht
    split at ht
    · rcases List.mem_append.1 ht with h1 | h1
      · exact hl t h1
      · rw [List.mem_singleton.1 h1]; exact hs
    · rcases List.mem_append.1 ht with h1 | h1
      · exact hl t (by simp [h1])
      · rw [List.mem_singleton.1 h1]; exact hl z (by simp)
theorem joinL_length (A : List Spn) (s : Spn) : (joinL A s).length ≤ A.length + 1 := by
  rcases List.eq_nil_or_concat A with rfl | ⟨B, z, rfl⟩
  · simp [joinL_nil]
  · simp only [List.concat_eq_append]
    rw [joinL_last]
    split <;> simp

/-- All spans, by rising Lo, one by one. -/
def joinAll (S : List Spn) : List Spn := S.foldl joinL []
theorem joinAll_snoc (S : List Spn) (s : Spn) : joinAll (S ++ [s]) = joinL (joinAll S) s := by simp [joinAll]
theorem joinAll_spec : ∀ (n : Nat) (S : List Spn), S.length = n → (∀ s ∈ S, Bnd s) → S.Pairwise (fun s t => s.1 ≤ t.1) →
    IsSet (joinAll S) ∧ (∀ n, memB n (joinAll S) = memB n S) ∧ ∀ m, (∀ s ∈ S, s.1 ≤ m) → ∀ t ∈ joinAll S, t.1 ≤ m := by
  intro n
  induction n with
  | zero => intro S hS _ _; rw [List.length_eq_zero_iff.1 hS]; exact ⟨IsSet.nil, fun _ => rfl, fun _ _ t ht => by simp [joinAll] at ht⟩
  | succ n ih =>
    intro S hS hb hp
    rcases List.eq_nil_or_concat S with rfl | ⟨B, z, rfl⟩
    · simp at hS
    simp only [List.concat_eq_append] at hS hb hp ⊢
    have hq := List.pairwise_append.1 hp
    obtain ⟨i1, i2, i3⟩ := ih B (by simpa using hS) (fun s hs => hb s (by simp [hs])) hq.1
    have hz : Bnd z := hb z (by simp)
    have hl := i3 z.1 (fun s hs => hq.2.2 s hs z (by simp))
    rw [joinAll_snoc]
    refine ⟨joinL_set i1 hz hl, fun n => ?_, fun m hm => joinL_lo (i3 m (fun s hs => hm s (by simp [hs]))) (hm z (by simp))⟩
    unfold Bnd at hz
    rw [joinL_mem hl (fun t ht => by have := i1.1 t ht; unfold Bnd at this; omega), i2, memB_append, memB_cons, memB_nil, Bool.or_false]
theorem joinAll_length (S : List Spn) : (joinAll S).length ≤ S.length := by
  suffices h : ∀ (S A : List Spn), (S.foldl joinL A).length ≤ A.length + S.length by simpa [joinAll] using h S []
  intro S
  induction S with
  | nil => intro A; simp
  | cons s S ih => intro A; have := ih (joinL A s); have := joinL_length A s; simp only [List.foldl_cons, List.length_cons]; omega

end Go.Proofs.YthgikaklcglpiaaGreatDoor.L5
/-
  The ends of sets, rising; what lies between two of them; the parts of all numbers. No condition.
-/
namespace Go.Proofs.YthgikaklcglpiaaGreatDoor.L5
end Go.Proofs.YthgikaklcglpiaaGreatDoor.L5
