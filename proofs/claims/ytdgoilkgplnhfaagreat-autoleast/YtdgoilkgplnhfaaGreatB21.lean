/-
  The least text of each state of an automaton in its one form. Of no program: no condition.
-/
import Derived.Test.YtdgoilkgplnhfaaGreatB03
namespace Go.Proofs.YtdgoilkgplnhfaaGreat
def Lx : List Nat → List Nat → Prop
  | [], _ => True
  | _ :: _, [] => False
  | a :: t, b :: u => a < b ∨ (a = b ∧ Lx t u)
theorem Lx.refl : ∀ t, Lx t t
  | [] => trivial
  | _ :: t => .inr ⟨rfl, Lx.refl t⟩
theorem Lx.trans : ∀ {t u v : List Nat}, Lx t u → Lx u v → Lx t v
  | [], _, _, _, _ => trivial
  | _ :: _, [], _, h, _ => h.elim
  | _ :: _, _ :: _, [], _, k => k.elim
  | a :: t, b :: u, c :: v, h, k => by
    rcases h with h | ⟨rfl, h⟩
    · rcases k with k | ⟨rfl, k⟩
      · exact .inl (by omega)
      · exact .inl h
    · rcases k with k | ⟨rfl, k⟩
      · exact .inl k
      · exact .inr ⟨rfl, h.trans k⟩
theorem Lx.snoc : ∀ {t u : List Nat} {a b : Nat}, t.length = u.length → Lx t u → (t = u → a ≤ b) → Lx (t ++ [a]) (u ++ [b])
  | [], [], a, b, _, _, h => by
    have := h rfl
    by_cases e : a = b
    · subst e; exact Lx.refl _
    · exact .inl (by omega)
  | [], _ :: _, _, _, hl, _, _ => by simp at hl
  | _ :: _, [], _, _, hl, _, _ => by simp at hl
  | x :: t, y :: u, a, b, hl, h, k => by
    rcases h with h | ⟨rfl, h⟩
    · exact .inl h
    · exact .inr ⟨rfl, Lx.snoc (by simpa using hl) h (fun e => k (by rw [e]))⟩
def Sl (t u : List Nat) : Prop := t.length < u.length ∨ (t.length = u.length ∧ Lx t u)
theorem Sl.refl (t : List Nat) : Sl t t := .inr ⟨rfl, Lx.refl t⟩
theorem Sl.trans {t u v : List Nat} (h : Sl t u) (k : Sl u v) : Sl t v := by
  rcases h with h | ⟨h, h'⟩ <;> rcases k with k | ⟨k, k'⟩
  · exact .inl (by omega)
  · exact .inl (by omega)
  · exact .inl (by omega)
  · exact .inr ⟨by omega, h'.trans k'⟩
theorem Sl.snoc {t u : List Nat} {a b : Nat} (h : Sl t u) (k : t = u → a ≤ b) : Sl (t ++ [a]) (u ++ [b]) := by
  rcases h with h | ⟨h, h'⟩
  · exact .inl (by simp; omega)
  · exact .inr ⟨by simp; omega, h'.snoc h k⟩
theorem Sl.nil (t : List Nat) : Sl [] t := by
  cases t with
  | nil => exact Sl.refl _
  | cons a t => exact .inl (by simp)
structure DF.Met (D : DF) (s p c : Nat) : Prop where
  lt : p < s
  cw : c < D.W
  goes : D.nx p c = s
  ft : ∀ p' c', c' < D.W → Ahead p' c' p c → D.nx p' c' < s
structure DF.Fst (D : DF) (c b : Nat) : Prop where
  lt : b < 256
  is : D.bc b = c
  ft : ∀ b', b' < b → D.bc b' ≠ c
inductive DF.LT (D : DF) : Nat → List Nat → Prop
  | zero : D.LT 0 []
  | step {s p c b : Nat} {t : List Nat} : D.Met s p c → D.Fst c b → D.LT p t → D.LT s (t ++ [b])
theorem Ahead.tri (p c q d : Nat) : Ahead p c q d ∨ (p = q ∧ c = d) ∨ Ahead q d p c := by
  unfold Ahead
  omega
theorem DF.Fst.ex {D : DF} {c : Nat} (h : ∃ b, b < 256 ∧ D.bc b = c) : ∃ b, D.Fst c b := by
  obtain ⟨b, h1, h2⟩ := h
  induction b using Nat.strongRecOn with
  | _ b ih =>
    by_cases hx : ∃ b', b' < b ∧ D.bc b' = c
    · obtain ⟨b', k1, k2⟩ := hx
      exact ih b' k1 (by omega) k2
    · exact ⟨b, h1, h2, fun b' hb' e => hx ⟨b', hb', e⟩⟩
theorem DF.Fst.le {D : DF} {c b b' : Nat} (h : D.Fst c b) (k : D.bc b' = c) : b ≤ b' := Nat.le_of_not_lt fun hl => h.ft b' hl k
section
variable {D : DF}
theorem DF.LT.run {s : Nat} {t : List Nat} (h : D.LT s t) : Txt t ∧ D.run 0 t = s := by
  induction h with
  | zero => exact ⟨Txt.nil, rfl⟩
  | step m f _ ih =>
    refine ⟨ih.1.snoc f.lt, ?_⟩
    rw [DF.run_snoc, ih.2]
    unfold DF.step
    rw [f.is, m.goes]
theorem DF.LT.one : ∀ s, s < D.n → ∀ t t', D.LT s t → D.LT s t' → t = t' := by
  intro s
  induction s using Nat.strongRecOn with
  | _ s ih =>
    intro hn t t' h h'
    cases h' with
    | zero =>
      cases h with
      | zero => rfl
      | step m f k => exact absurd m.lt (by omega)
    | step m' f' k' =>
      cases h with
      | zero => exact absurd m'.lt (by omega)
      | step m f k =>
        rename_i p' c' b' u' p c b u
        have e : p = p' ∧ c = c' := by
          rcases Ahead.tri p c p' c' with ha | e | ha
          · have := m'.ft p c m.cw ha
            rw [m.goes] at this
            omega
          · exact e
          · have := m.ft p' c' m'.cw ha
            rw [m'.goes] at this
            omega
        obtain ⟨rfl, rfl⟩ := e
        have eb : b = b' := Nat.le_antisymm (f.le f'.is) (f'.le f.is)
        subst eb
        rw [ih p m.lt (by have := m.lt; omega) u u' k k']
end
section
variable {D : DF} (R : D.Right)
include R
theorem DF.LT.ex : ∀ s, s < D.n → ∃ t, D.LT s t := by
  intro s
  induction s using Nat.strongRecOn with
  | _ s ih =>
    intro hs
    by_cases h0 : s = 0
    · subst h0; exact ⟨[], .zero⟩
    obtain ⟨p, c, hp, hc, h1, h2⟩ := R.met hs (by omega)
    obtain ⟨b, hb⟩ := DF.Fst.ex (R.cols c hc)
    obtain ⟨t, ht⟩ := ih p hp (by omega)
    exact ⟨t ++ [b], .step ⟨hp, hc, h1, h2⟩ hb ht⟩
theorem DF.Fst.lt_of {c c' b b' : Nat} (h : D.Fst c b) (k : D.Fst c' b') (hc : c < c') : b < b' := by
  obtain ⟨x, h1, h2⟩ := R.colf b' k.lt c (by rw [k.is]; exact hc)
  have := h.le h2
  omega
theorem DF.LT.mono : ∀ s' s, s < s' → s' < D.n → ∀ t t', D.LT s t → D.LT s' t' → Sl t t' ∧ t ≠ t' := by
  intro s'
  induction s' using Nat.strongRecOn with
  | _ s' ih =>
    intro s hlt hn t t' h h'
    refine ⟨?_, fun e => ?_⟩
    · cases h' with
      | zero => omega
      | step m' f' k' =>
        cases h with
        | zero => exact Sl.nil _
        | step m f k =>
          rename_i p' c' b' u' p c b u
          rcases Ahead.tri p c p' c' with ha | ⟨rfl, rfl⟩ | ha
          · rcases ha with ha | ⟨rfl, ha⟩
            · have hm := ih p' m'.lt p ha (by have := m'.lt; omega) u u' k k'
              exact hm.1.snoc (fun e => absurd e hm.2)
            · have hb := DF.Fst.lt_of R f f' ha
              rw [DF.LT.one p (by have := m'.lt; omega) u u' k k']
              exact (Sl.refl _).snoc (fun _ => by omega)
          · have := m.goes; have := m'.goes; omega
          · have := m.ft p' c' m'.cw ha
            rw [m'.goes] at this
            omega
    · subst e
      have h1 := (DF.LT.run h).2
      have h2 := (DF.LT.run h').2
      omega
theorem DF.LT.least : ∀ (u : List Nat), Txt u → ∀ t, D.LT (D.run 0 u) t → Sl t u := by
  intro u
  induction hn : u.length generalizing u with
  | zero =>
    intro hu t h
    obtain rfl : u = [] := List.length_eq_zero_iff.1 hn
    rw [DF.run_nil] at h
    rw [DF.LT.one 0 R.n0 t [] h .zero]
    exact Sl.refl _
  | succ n ih =>
    intro hu t h
    obtain ⟨v, b', rfl⟩ : ∃ v b', u = v ++ [b'] := ⟨u.dropLast, u.getLast (by intro e; subst e; simp at hn), (List.dropLast_concat_getLast _).symm⟩
    have hv : Txt v := fun x hx => hu x (List.mem_append_left _ hx)
    have hb' : b' < 256 := hu b' (by simp)
    have hq := R.toOk.run R.n0 hv
    obtain ⟨tq, htq⟩ := DF.LT.ex R _ hq
    have h1 := ih v (by simp at hn; exact hn) hv tq htq
    refine Sl.trans ?_ (h1.snoc (a := b') (fun _ => Nat.le_refl _))
    rw [DF.run_snoc] at h
    generalize hs : D.step (D.run 0 v) b' = s at h
    cases h with
    | zero => exact Sl.nil _
    | step m f k =>
      rename_i p c b t
      unfold DF.step at hs
      have hc' := R.bc b' hb'
      rcases Ahead.tri p c (D.run 0 v) (D.bc b') with ha | ⟨rfl, rfl⟩ | ha
      · rcases ha with ha | ⟨rfl, ha⟩
        · have hm := DF.LT.mono R _ _ ha hq t tq k htq
          exact hm.1.snoc (fun e => absurd e hm.2)
        · rw [DF.LT.one _ hq t tq k htq]
          obtain ⟨x, k1, k2⟩ := R.colf b' hb' c ha
          have := f.le k2
          exact (Sl.refl _).snoc (fun _ => by omega)
      · rw [DF.LT.one _ hq t tq k htq]
        exact (Sl.refl _).snoc (fun _ => f.le rfl)
      · have := m.ft _ _ hc' ha
        omega
theorem DF.LT.first {s : Nat} {t : List Nat} (hs : s < D.n) (h : D.LT s t) (hf : ∀ q, q < s → D.ou q ≠ D.ou s) {u : List Nat} (hu : Txt u) (hl : D.lab 0 u = D.ou s) : Sl t u := by
  have hq := R.toOk.run R.n0 hu
  have hle : s ≤ D.run 0 u := Nat.le_of_not_lt fun hlt => hf _ hlt hl
  obtain ⟨tq, htq⟩ := DF.LT.ex R _ hq
  have h1 := DF.LT.least R u hu tq htq
  by_cases e : s = D.run 0 u
  · subst e
    rw [DF.LT.one _ hq t tq h htq]
    exact h1
  · exact (DF.LT.mono R _ _ (by omega) hq t tq h htq).1.trans h1
end
end Go.Proofs.YtdgoilkgplnhfaaGreat
