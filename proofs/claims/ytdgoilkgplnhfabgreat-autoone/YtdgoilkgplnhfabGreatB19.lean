/-
  The least text of each state of an automaton in its one form. Of no program: no condition.
-/
import Derived.Test.YtdgoilkgplnhfabGreatB07
import Derived.Test.YtdgoilkgplnhfabGreatB12
namespace Go.Proofs.YtdgoilkgplnhfabGreat
def Lx : List Nat → List Nat → Prop
  | [], _ => True
  | _ :: _, [] => False
  | a :: t, b :: u => a < b ∨ (a = b ∧ Lx t u)
theorem Lx.refl : ∀ t, Lx t t
  | [] => trivial
  | _ :: t => .inr ⟨rfl, Lx.refl t⟩
theorem Lx.trans : ∀ {t u v : List Nat}, Lx t u → Lx u v → Lx t v
  | [], _, _, _, _ => trivial
  | _ :: _, [], _, h, _ => h.elim
  | _ :: _, _ :: _, [], _, k => k.elim
  | a :: t, b :: u, c :: v, h, k => by
    rcases h with h | ⟨rfl, h⟩
    · rcases k with k | ⟨rfl, k⟩
      · exact .inl (by omega)
      · exact .inl h
    · rcases k with k | ⟨rfl, k⟩
      · exact .inl k
      · exact .inr ⟨rfl, h.trans k⟩
theorem Lx.snoc : ∀ {t u : List Nat} {a b : Nat}, t.length = u.length → Lx t u → (t = u → a ≤ b) → Lx (t ++ [a]) (u ++ [b])
  | [], [], a, b, _, _, h => by
    have := h rfl
    by_cases e : a = b
    · subst e; exact Lx.refl _
    · exact .inl (by omega)
  | [], _ :: _, _, _, hl, _, _ => by simp at hl
  | _ :: _, [], _, _, hl, _, _ => by simp at hl
  | x :: t, y :: u, a, b, hl, h, k => by
    rcases h with h | ⟨rfl, h⟩
    · exact .inl h
    · exact .inr ⟨rfl, Lx.snoc (by simpa using hl) h (fun e => k (by rw [e]))⟩
def Sl (t u : List Nat) : Prop := t.length < u.length ∨ (t.length = u.length ∧ Lx t u)
theorem Sl.refl (t : List Nat) : Sl t t := .inr ⟨rfl, Lx.refl t⟩
theorem Sl.trans {t u v : List Nat} (h : Sl t u) (k : Sl u v) : Sl t v := by
  rcases h with h | ⟨h, h'⟩ <;> rcases k with k | ⟨k, k'⟩
  · exact .inl (by omega)
  · exact .inl (by omega)
  · exact .inl (by omega)
  · exact .inr ⟨by omega, h'.trans k'⟩
theorem Sl.snoc {t u : List Nat} {a b : Nat} (h : Sl t u) (k : t = u → a ≤ b) : Sl (t ++ [a]) (u ++ [b]) := by
  rcases h with h | ⟨h, h'⟩
  · exact .inl (by simp; omega)
  · exact .inr ⟨by simp; omega, h'.snoc h k⟩
theorem Sl.nil (t : List Nat) : Sl [] t := by
  cases t with
  | nil => exact Sl.refl _
  | cons a t => exact .inl (by simp)
structure DF.Met (D : DF) (s p c : Nat) : Prop where
  lt : p < s
  cw : c < D.W
  goes : D.nx p c = s
  ft : ∀ p' c', c' < D.W → Ahead p' c' p c → D.nx p' c' < s
structure DF.Fst (D : DF) (c b : Nat) : Prop where
  lt : b < 256
  is : D.bc b = c
  ft : ∀ b', b' < b → D.bc b' ≠ c
inductive DF.LT (D : DF) : Nat → List Nat → Prop
  | zero : D.LT 0 []
  | step {s p c b : Nat} {t : List Nat} : D.Met s p c → D.Fst c b → D.LT p t → D.LT s (t ++ [b])
theorem Ahead.tri (p c q d : Nat) : Ahead p c q d ∨ (p = q ∧ c = d) ∨ Ahead q d p c := by
  unfold Ahead
  omega
theorem DF.Fst.ex {D : DF} {c : Nat} (h : ∃ b, b < 256 ∧ D.bc b = c) : ∃ b, D.Fst c b := by
  obtain ⟨b, h1, h2⟩ := h
  induction b using Nat.strongRecOn with
  | _ b ih =>
    by_cases hx : ∃ b', b' < b ∧ D.bc b' = c
    · obtain ⟨b', k1, k2⟩ := hx
      exact ih b' k1 (by omega) k2
    · exact ⟨b, h1, h2, fun b' hb' e => hx ⟨b', hb', e⟩⟩
theorem DF.Fst.le {D : DF} {c b b' : Nat} (h : D.Fst c b) (k : D.bc b' = c) : b ≤ b' := Nat.le_of_not_lt fun hl => h.ft b' hl k
section
variable {D : DF}
theorem DF.LT.run {s : Nat} {t : List Nat} (h : D.LT s t) : Txt t ∧ D.run 0 t = s := by
  induction h with
  | zero => exact ⟨Txt.nil, rfl⟩
  | step m f _ ih =>
    refine ⟨ih.1.snoc f.lt, ?_⟩
    rw [DF.run_snoc, ih.2]
    unfold DF.step
    rw [f.is, m.goes]
theorem DF.LT.one : ∀ s, s < D.n → ∀ t t', D.LT s t → D.LT s t' → t = t' := by
  intro s
  induction s using Nat.strongRecOn with
  | _ s ih =>
    intro hn t t' h h'
    cases h' with
    | zero =>
      cases h with
      | zero => rfl
      | step m f k => exact absurd m.lt (by omega)
    | step m' f' k' =>
      cases h with
      | zero => exact absurd m'.lt (by omega)
      | step m f k =>
        rename_i p' c' b' u' p c b u
        have e : p = p' ∧ c = c' := by
          rcases Ahead.tri p c p' c' with ha | e | ha
          · have := m'.ft p c m.cw ha
            rw [m.goes] at this
            omega
          · exact e
          · have := m.ft p' c' m'.cw ha
            rw [m'.goes] at this
            omega
        obtain ⟨rfl, rfl⟩ := e
        have eb : b = b' := Nat.le_antisymm (f.le f'.is) (f'.le f.is)
        subst eb
        rw [ih p m.lt (by have := m.lt; omega) u u' k k']
end
section
variable {D : DF} (R : D.Right)
include R
theorem DF.LT.ex : ∀ s, s < D.n → ∃ t, D.LT s t := by
  intro s
  induction s using Nat.strongRecOn with
  | _ s ih =>
    intro hs
    by_cases h0 : s = 0
    · subst h0; exact ⟨[], .zero⟩
    obtain ⟨p, c, hp, hc, h1, h2⟩ := R.met hs (by omega)
    obtain ⟨b, hb⟩ := DF.Fst.ex (R.cols c hc)
    obtain ⟨t, ht⟩ := ih p hp (by omega)
    exact ⟨t ++ [b], .step ⟨hp, hc, h1, h2⟩ hb ht⟩
theorem DF.Fst.lt_of {c c' b b' : Nat} (h : D.Fst c b) (k : D.Fst c' b') (hc : c < c') : b < b' := by
  obtain ⟨x, h1, h2⟩ := R.colf b' k.lt c (by rw [k.is]; exact hc)
  have := h.le h2
  omega
theorem DF.LT.mono : ∀ s' s, s < s' → s' < D.n → ∀ t t', D.LT s t → D.LT s' t' → Sl t t' ∧ t ≠ t' := by
  intro s'
  induction s' using Nat.strongRecOn with
  | _ s' ih =>
    intro s hlt hn t t' h h'
    refine ⟨?_, fun e => ?_⟩
    · cases h' with
      | zero => omega
      | step m' f' k' =>
        cases h with
        | zero => exact Sl.nil _
        | step m f k =>
          rename_i p' c' b' u' p c b u
          rcases Ahead.tri p c p' c' with ha | ⟨rfl, rfl⟩ | ha
          · rcases ha with ha | ⟨rfl, ha⟩
            · have hm := ih p' m'.lt p ha (by have := m'.lt; omega) u u' k k'
              exact hm.1.snoc (fun e => absurd e hm.2)
            · have hb := DF.Fst.lt_of R f f' ha
              rw [DF.LT.one p (by have := m'.lt; omega) u u' k k']
              exact (Sl.refl _).snoc (fun _ => by omega)
          · have := m.goes; have := m'.goes; omega
          · have := m.ft p' c' m'.cw ha
            rw [m'.goes] at this
            omega
    · subst e
      have h1 := (DF.LT.run h).2
      have h2 := (DF.LT.run h').2
      omega
theorem DF.LT.least : ∀ (u : List Nat), Txt u → ∀ t, D.LT (D.run 0 u) t → Sl t u := by
  intro u
  induction hn : u.length generalizing u with
  | zero =>
    intro hu t h
    obtain rfl : u = [] := List.length_eq_zero_iff.1 hn
    rw [DF.run_nil] at h
    rw [DF.LT.one 0 R.n0 t [] h .zero]
    exact Sl.refl _
  | succ n ih =>
    intro hu t h
    obtain ⟨v, b', rfl⟩ : ∃ v b', u = v ++ [b'] := ⟨u.dropLast, u.getLast (by intro e; subst e; simp at hn), (List.dropLast_concat_getLast _).symm⟩
    have hv : Txt v := fun x hx => hu x (List.mem_append_left _ hx)
    have hb' : b' < 256 := hu b' (by simp)
    have hq := R.toOk.run R.n0 hv
    obtain ⟨tq, htq⟩ := DF.LT.ex R _ hq
    have h1 := ih v (by simp at hn; exact hn) hv tq htq
    refine Sl.trans ?_ (h1.snoc (a := b') (fun _ => Nat.le_refl _))
    rw [DF.run_snoc] at h
    generalize hs : D.step (D.run 0 v) b' = s at h
    cases h with
    | zero => exact Sl.nil _
    | step m f k =>
      rename_i p c b t
      unfold DF.step at hs
      have hc' := R.bc b' hb'
      rcases Ahead.tri p c (D.run 0 v) (D.bc b') with ha | ⟨rfl, rfl⟩ | ha
      · rcases ha with ha | ⟨rfl, ha⟩
        · have hm := DF.LT.mono R _ _ ha hq t tq k htq
          exact hm.1.snoc (fun e => absurd e hm.2)
        · rw [DF.LT.one _ hq t tq k htq]
          obtain ⟨x, k1, k2⟩ := R.colf b' hb' c ha
          have := f.le k2
          exact (Sl.refl _).snoc (fun _ => by omega)
      · rw [DF.LT.one _ hq t tq k htq]
        exact (Sl.refl _).snoc (fun _ => f.le rfl)
      · have := m.ft _ _ hc' ha
        omega
theorem DF.LT.first {s : Nat} {t : List Nat} (hs : s < D.n) (h : D.LT s t) (hf : ∀ q, q < s → D.ou q ≠ D.ou s) {u : List Nat} (hu : Txt u) (hl : D.lab 0 u = D.ou s) : Sl t u := by
  have hq := R.toOk.run R.n0 hu
  have hle : s ≤ D.run 0 u := Nat.le_of_not_lt fun hlt => hf _ hlt hl
  obtain ⟨tq, htq⟩ := DF.LT.ex R _ hq
  have h1 := DF.LT.least R u hu tq htq
  by_cases e : s = D.run 0 u
  · subst e
    rw [DF.LT.one _ hq t tq h htq]
    exact h1
  · exact (DF.LT.mono R _ _ (by omega) hq t tq h htq).1.trans h1
end
theorem DF.hom_run {A B : DF} {f : Nat → Nat} (hB : B.Ok) (hs : ∀ s, s < B.n → ∀ b, b < 256 → f (B.step s b) = A.step (f s) b) : ∀ (t : List Nat) (s : Nat), Txt t → s < B.n → f (B.run s t) = A.run (f s) t
  | [], _, _, _ => rfl
  | b :: t, s, ht, hn => by
    rw [DF.run_cons, DF.run_cons, hom_run hB hs t _ ht.tail.2 (hB.step hn ht.tail.1), hs s hn b ht.tail.1]
def fo (n v : Nat) : Nat := if v = n then n - 1 else v
theorem fo_lt {n v : Nat} (h0 : 0 < n) (h : v < n + 1) : fo n v < n := by unfold fo; split <;> omega
theorem fo_of {n v : Nat} (h : v < n) : fo n v = v := by unfold fo; rw [if_neg (by omega)]
def tu (n p i : Nat) : Nat := if i = 0 then 0 else 1 + (i - 1 + p) % (n - 1)
def ut (n p j : Nat) : Nat := if j = 0 then 0 else 1 + (j - 1 + (n - 1 - p)) % (n - 1)
theorem tu_lt {n p i : Nat} (hi : i < n) : tu n p i < n := by
  unfold tu
  split
  · omega
  · have := Nat.mod_lt (i - 1 + p) (show 0 < n - 1 by omega)
    omega
theorem ut_lt {n p i : Nat} (hi : i < n) : ut n p i < n := by
  unfold ut
  split
  · omega
  · have := Nat.mod_lt (i - 1 + (n - 1 - p)) (show 0 < n - 1 by omega)
    omega
theorem mod_two {a p m : Nat} (ha : a < m) (hp : p < m) : (a + p) % m = if a + p < m then a + p else a + p - m := by
  split
  · next h => exact Nat.mod_eq_of_lt h
  · next h =>
    rw [Nat.mod_eq_sub_mod (by omega), Nat.mod_eq_of_lt (by omega)]
theorem ut_tu {n p i : Nat} (hi : i < n) (hp : p < n - 1) : ut n p (tu n p i) = i := by
  unfold tu
  split
  · next h => rw [h]; rfl
  · next h =>
    have h1 := mod_two (a := i - 1) (p := p) (m := n - 1) (by omega) hp
    have h2 := Nat.mod_lt (i - 1 + p) (show 0 < n - 1 by omega)
    generalize (i - 1 + p) % (n - 1) = r at h1 h2
    unfold ut
    rw [if_neg (by omega)]
    have e : 1 + r - 1 = r := by omega
    rw [e]
    by_cases hp0 : p = 0
    · subst hp0
      rw [if_pos (by omega)] at h1
      rw [show r + (n - 1 - 0) = r + (n - 1) by omega, Nat.add_mod_right, Nat.mod_eq_of_lt (by omega)]
      omega
    · have h3 := mod_two (a := r) (p := n - 1 - p) (m := n - 1) h2 (by omega)
      rw [h3]
      split at h1 <;> split <;> omega
theorem tu_ut {n p j : Nat} (hj : j < n) (hp : p < n - 1) : tu n p (ut n p j) = j := by
  unfold ut
  split
  · next h => rw [h]; rfl
  · next h =>
    have h2 := Nat.mod_lt (j - 1 + (n - 1 - p)) (show 0 < n - 1 by omega)
    by_cases hp0 : p = 0
    · subst hp0
      have e : (j - 1 + (n - 1 - 0)) % (n - 1) = j - 1 := by
        rw [show j - 1 + (n - 1 - 0) = j - 1 + (n - 1) by omega, Nat.add_mod_right, Nat.mod_eq_of_lt (by omega)]
      rw [e]
      unfold tu
      rw [if_neg (by omega), show 1 + (j - 1) - 1 + 0 = j - 1 by omega, Nat.mod_eq_of_lt (by omega)]
      omega
    · have h1 := mod_two (a := j - 1) (p := n - 1 - p) (m := n - 1) (by omega) (by omega)
      generalize (j - 1 + (n - 1 - p)) % (n - 1) = r at h1 h2
      unfold tu
      rw [if_neg (by omega), show 1 + r - 1 = r by omega, mod_two h2 hp]
      split at h1 <;> split <;> omega
structure TwoD (NX OU T NB OB : List Nat) (w : Nat) : Prop where
  tl : T.length = OU.length
  nl : NB.length = (OU.length + 1) * w
  ol : OB.length = OU.length + 1
  nx : ∀ i, i < OU.length → ∀ c, c < w → fo OU.length (gN NB (gN T i * w + c)) = gN T (gN NX (i * w + c))
  nd : ∀ c, c < w → fo OU.length (gN NB (OU.length * w + c)) = fo OU.length (gN NB ((OU.length - 1) * w + c))
  lt : ∀ x ∈ NB, x < OU.length + 1
  ou : ∀ i, i < OU.length → gN OB (gN T i) = gN OU i
  od : gN OB OU.length = gN OB (OU.length - 1)
theorem two_lab {bs : By} {NX OU T NB OB : List Nat} (hM : MayA bs NX OU) (hn : OU.length ≤ 256) (h : TwoD NX OU T NB OB (NX.length / OU.length)) {f : Nat → Nat} (f0 : f 0 = 0) (fl : ∀ j, j < OU.length → f j < OU.length) (ft : ∀ i, i < OU.length → f (gN T i) = i) (tf : ∀ j, j < OU.length → gN T (f j) = j) :
    MayA bs NB OB ∧ ∀ t, Txt t → (dfA bs NB OB).lab 0 t = (dfA bs NX OU).lab 0 t := by
  have n0 := hM.n0
  obtain ⟨n, en⟩ : ∃ n, n = OU.length := ⟨_, rfl⟩
  obtain ⟨w, ew⟩ : ∃ w, w = NX.length / OU.length := ⟨_, rfl⟩
  have eW : NB.length / OB.length = w := by rw [h.nl, h.ol, ew]; exact Nat.mul_div_cancel_left _ (by omega)
  have hm : MayA bs NB OB := by
    refine ⟨hM.bl, by rw [h.ol]; omega, by rw [h.ol]; omega, by rw [eW, h.nl, h.ol, ew], fun b hb => by rw [eW, ew]; exact hM.bw b hb, by rw [eW, ew]; exact hM.w1, fun x hx => by rw [h.ol]; exact h.lt x hx, fun x hx => ?_⟩
    obtain ⟨j, hj, rfl⟩ := List.getElem_of_mem hx
    rw [← gN_lt hj]
    have key : ∀ j, j < OU.length → gN OB j ≤ 65535 := fun j hj => by
      have h1 := h.ou (f j) (fl j hj)
      rw [tf j hj] at h1
      rw [h1, gN_lt (fl j hj)]
      exact hM.lb _ (List.getElem_mem _)
    rw [h.ol] at hj
    by_cases h1 : j < OU.length
    · exact key j h1
    · rw [show j = OU.length by omega, h.od]
      exact key _ (by omega)
  refine ⟨hm, fun t ht => ?_⟩
  have hB := hm.ok
  have hnB : (dfA bs NB OB).n = n + 1 := by rw [en]; exact h.ol
  have e1 : ∀ s, s < n + 1 → (dfA bs NX OU).ou (f (fo n s)) = (dfA bs NB OB).ou s := fun s hs => by
    have hl := fo_lt (show 0 < n by omega) hs
    have h1 := h.ou (f (fo n s)) (fl _ (by omega))
    rw [tf _ (by omega)] at h1
    show ((gN OU (f (fo n s)) : Nat) : Int) = ((gN OB s : Nat) : Int)
    rw [← h1]
    unfold fo
    split
    · next e => rw [e, en, h.od]
    · rfl
  have e2 : ∀ s, s < n + 1 → ∀ b, b < 256 → f (fo n ((dfA bs NB OB).step s b)) = (dfA bs NX OU).step (f (fo n s)) b := fun s hs b hb => by
    have hl := fo_lt (show 0 < n by omega) hs
    have hc := hM.bw b hb
    rw [← ew] at hc
    have e3 : (dfA bs NB OB).step s b = gN NB (s * w + (bs.getD b 0).toNat) := by
      show gN NB (s * (NB.length / OB.length) + _) = _
      rw [eW]; rfl
    have e4 : (dfA bs NX OU).step (f (fo n s)) b = gN NX (f (fo n s) * w + (bs.getD b 0).toNat) := by
      show gN NX (f (fo n s) * (NX.length / OU.length) + _) = _
      rw [ew]; rfl
    rw [e3, e4]
    generalize (bs.getD b 0).toNat = c at hc
    have h1 := h.nx (f (fo n s)) (fl _ (by omega)) c (by omega)
    rw [tf _ (by omega), ← ew, ← en] at h1
    have hx : gN NX (f (fo n s) * w + c) < n := by
      have hi : f (fo n s) * w + c < NX.length := by
        rw [hM.wl, ← ew, Nat.mul_comm OU.length]
        have := at_lt (fl (fo n s) (by omega)) hc
        rw [Nat.mul_comm w]
        exact this
      rw [gN_lt hi]
      have := hM.nl _ (List.getElem_mem hi)
      omega
    have h2 : fo n (gN NB (s * w + c)) = fo n (gN NB (fo n s * w + c)) := by
      by_cases hsn : s = n
      · have e5 : fo n s = n - 1 := by unfold fo; rw [if_pos hsn]
        have h3 := h.nd c (by omega)
        rw [← ew, ← en] at h3
        rw [e5, hsn]; exact h3
      · rw [fo_of (show s < n by omega)]
    rw [h2, h1]
    exact ft _ (by omega)
  have := DF.hom_run (A := dfA bs NX OU) (f := fun s => f (fo n s)) hB (fun s hs b hb => e2 s (by omega) b hb) t 0 ht (by omega)
  have e0 : f (fo n 0) = 0 := by rw [fo_of (by omega), f0]
  rw [e0] at this
  have hr := hB.run (show 0 < (dfA bs NB OB).n by omega) ht
  show (dfA bs NB OB).ou _ = (dfA bs NX OU).ou _
  rw [← this, e1 _ (by omega)]
theorem gN_zr (n i : Nat) : gN (List.replicate n 0) i = 0 := by
  unfold gN
  simp [List.getD_eq_getElem?_getD, List.getElem?_replicate]
  split <;> rfl
theorem tu_lt' {n p i : Nat} (hi : i < n) : tu n p i < n := tu_lt hi
def OnT (n p i : Nat) (T : List Nat) : Prop := T.length = n ∧ ∀ j, j < n → gN T j = if j < i then tu n p j else 0
theorem OnT.start (n p : Nat) : OnT n p 1 (List.replicate n 0) := by
  refine ⟨by simp, fun j hj => ?_⟩
  rw [gN_zr]
  by_cases h : j < 1
  · rw [if_pos h]; unfold tu; rw [if_pos (by omega)]
  · rw [if_neg h]
theorem OnT.next {n p i : Nat} {T : List Nat} (h : OnT n p i T) (h1 : 1 ≤ i) (hi : i < n) : OnT n p (i + 1) (T.set i (1 + (i - 1 + p) % (n - 1))) := by
  refine ⟨by rw [List.length_set]; exact h.1, fun j hj => ?_⟩
  rw [gN_set T (by rw [h.1]; exact hi)]
  by_cases e : j = i
  · rw [if_pos e, if_pos (by omega)]; unfold tu; rw [if_neg (by omega), e]
  · rw [if_neg e, h.2 j hj]
    by_cases h2 : j < i
    · rw [if_pos h2, if_pos (by omega)]
    · rw [if_neg h2, if_neg (by omega)]
theorem OnT.done {n p i : Nat} {T : List Nat} (h : OnT n p i T) (hi : ¬ i < n) {j : Nat} (hj : j < n) : gN T j = tu n p j := by rw [h.2 j hj, if_pos (by omega)]
structure OnA (n p : Nat) (T : List Nat) : Prop where
  len : T.length = n
  at_ : ∀ j, j < n → gN T j = tu n p j
  pn : 1 < n → p < n - 1
theorem OnA.lt {n p : Nat} {T : List Nat} (h : OnA n p T) {j : Nat} (hj : j < n) : gN T j < n := by rw [h.at_ j hj]; exact tu_lt hj
theorem OnA.back {n p : Nat} {T : List Nat} (h : OnA n p T) {j : Nat} (hj : j < n) : ut n p (gN T j) = j := by
  rw [h.at_ j hj]
  by_cases h1 : 1 < n
  · exact ut_tu hj (h.pn h1)
  · obtain rfl : j = 0 := by omega
    unfold tu ut; simp
theorem OnA.forth {n p : Nat} {T : List Nat} (h : OnA n p T) {j : Nat} (hj : j < n) : gN T (ut n p j) = j := by
  rw [h.at_ _ (ut_lt hj)]
  by_cases h1 : 1 < n
  · exact tu_ut hj (h.pn h1)
  · obtain rfl : j = 0 := by omega
    unfold tu ut; simp
theorem OnA.inj {n p : Nat} {T : List Nat} (h : OnA n p T) {i j : Nat} (hi : i < n) (hj : j < n) (e : gN T i = gN T j) : i = j := by
  rw [← h.back hi, ← h.back hj, e]
theorem row_inj {a b c d w : Nat} (hc : c < w) (hd : d < w) (h : a * w + c = b * w + d) : a = b ∧ c = d := by
  have h1 := div_at (i := a) hc
  have h2 := div_at (i := b) hd
  rw [h] at h1
  exact ⟨by omega, by omega⟩
structure OnN (n w : Nat) (T NX OU NB OB : List Nat) (i c : Nat) : Prop where
  nl : NB.length = (n + 1) * w
  ol : OB.length = n + 1
  nx : ∀ k, k < n → ∀ d, d < w → (k < i ∨ k = i ∧ d < c) → gN NB (gN T k * w + d) = gN T (gN NX (k * w + d))
  lt : ∀ q, q < NB.length → gN NB q < n
  ou : ∀ k, k < n → k < i → gN OB (gN T k) = gN OU k
section
variable {n w p : Nat} {T NX OU NB OB : List Nat} {i c : Nat}
theorem OnN.start (hn : 0 < n) : OnN n w T NX OU (List.replicate ((n + 1) * w) 0) (List.replicate (n + 1) 0) 0 0 :=
  ⟨by simp, by simp, fun k _ d _ h => by omega, fun q _ => by rw [gN_zr]; exact hn, fun k _ h => by omega⟩
theorem OnN.at (h : OnN n w T NX OU NB OB i c) (hA : OnA n p T) (hi : i < n) (hc : c < w) : gN T i * w + c < NB.length := by
  rw [h.nl]
  have := at_lt (hA.lt hi) hc
  have e : (n + 1) * w = n * w + w := Nat.succ_mul n w
  omega
theorem OnN.col (h : OnN n w T NX OU NB OB i c) (hA : OnA n p T) (hi : i < n) (hc : c < w) (hx : gN NX (i * w + c) < n) : OnN n w T NX OU (NB.set (gN T i * w + c) (gN T (gN NX (i * w + c)))) OB i (c + 1) := by
  have hl := h.at hA hi hc
  refine ⟨by rw [List.length_set]; exact h.nl, h.ol, fun k hk d hd hh => ?_, fun q hq => ?_, h.ou⟩
  · rw [gN_set NB hl]
    by_cases e : gN T k * w + d = gN T i * w + c
    · obtain ⟨e1, e2⟩ := row_inj hd hc e
      have e3 := hA.inj hk hi e1
      rw [if_pos e, e3, e2]
    · rw [if_neg e]
      refine h.nx k hk d hd ?_
      rcases hh with h1 | ⟨h1, h2⟩
      · exact .inl h1
      · refine .inr ⟨h1, ?_⟩
        by_cases h3 : d = c
        · exact absurd (by rw [h1, h3]) e
        · omega
  · rw [List.length_set] at hq
    rw [gN_set NB hl]
    split
    · exact hA.lt hx
    · exact h.lt q hq
theorem OnN.out (h : OnN n w T NX OU NB OB i c) (hA : OnA n p T) (hi : i < n) (hc : ¬ c < w) : OnN n w T NX OU NB (OB.set (gN T i) (gN OU i)) (i + 1) 0 := by
  have hl : gN T i < OB.length := by rw [h.ol]; have := hA.lt hi; omega
  refine ⟨h.nl, by rw [List.length_set]; exact h.ol, fun k hk d hd hh => ?_, h.lt, fun k hk hh => ?_⟩
  · refine h.nx k hk d hd ?_
    rcases hh with h1 | ⟨h1, h2⟩
    · by_cases e : k = i
      · exact .inr ⟨e, by omega⟩
      · exact .inl (by omega)
    · omega
  · rw [gN_set OB hl]
    by_cases e : gN T k = gN T i
    · rw [if_pos e, hA.inj hk hi e]
    · rw [if_neg e]
      refine h.ou k hk ?_
      by_cases e2 : k = i
      · exact absurd (by rw [e2]) e
      · omega
end
structure OnD (n w : Nat) (T NX OU NB OB : List Nat) (c : Nat) : Prop where
  nl : NB.length = (n + 1) * w
  ol : OB.length = n + 1
  nx : ∀ k, k < n → ∀ d, d < w → gN NB (gN T k * w + d) = gN T (gN NX (k * w + d))
  lt : ∀ q, q < NB.length → gN NB q < n
  ou : ∀ k, k < n → gN OB (gN T k) = gN OU k
  nd : ∀ d, d < c → gN NB (n * w + d) = gN NB ((n - 1) * w + d)
section
variable {n w p : Nat} {T NX OU NB OB : List Nat} {i c : Nat}
theorem OnN.done (h : OnN n w T NX OU NB OB i 0) (hi : ¬ i < n) : OnD n w T NX OU NB OB 0 :=
  ⟨h.nl, h.ol, fun k hk d hd => h.nx k hk d hd (.inl (by omega)), h.lt, fun k hk => h.ou k hk (by omega), fun d hd => by omega⟩
theorem OnD.at (h : OnD n w T NX OU NB OB c) (hc : c < w) (hn : 0 < n) : n * w + c < NB.length ∧ (n - 1) * w + c < NB.length ∧ (n - 1) * w + w = n * w := by
  rw [h.nl]
  have e : (n + 1) * w = n * w + w := Nat.succ_mul n w
  obtain ⟨m, rfl⟩ : ∃ m, n = m + 1 := ⟨n - 1, by omega⟩
  have e2 : (m + 1) * w = m * w + w := Nat.succ_mul m w
  rw [Nat.add_sub_cancel]
  omega
theorem OnD.next (h : OnD n w T NX OU NB OB c) (hA : OnA n p T) (hc : c < w) (hn : 0 < n) : OnD n w T NX OU (NB.set (n * w + c) (gN NB ((n - 1) * w + c))) OB (c + 1) := by
  obtain ⟨hl, hl2, e0⟩ := h.at hc hn
  refine ⟨by rw [List.length_set]; exact h.nl, h.ol, fun k hk d hd => ?_, fun q hq => ?_, h.ou, fun d hd => ?_⟩
  · rw [gN_set NB hl, if_neg, h.nx k hk d hd]
    intro e
    have := (row_inj hd hc e).1
    have := hA.lt hk
    omega
  · rw [List.length_set] at hq
    rw [gN_set NB hl]
    split
    · exact h.lt _ hl2
    · exact h.lt q hq
  · rw [gN_set NB hl, gN_set NB hl, if_neg (c := (n - 1) * w + d = n * w + c) (by omega)]
    by_cases e : d = c
    · rw [if_pos (by rw [e]), e]
    · rw [if_neg (by omega), h.nd d (by omega)]
theorem OnD.out (h : OnD n w T NX OU NB OB c) (hA : OnA n p T) (hn : 0 < n) : OnD n w T NX OU NB (OB.set n (gN OB (n - 1))) c ∧ gN (OB.set n (gN OB (n - 1))) n = gN (OB.set n (gN OB (n - 1))) (n - 1) := by
  have hl : n < OB.length := by rw [h.ol]; omega
  refine ⟨⟨h.nl, by rw [List.length_set]; exact h.ol, h.nx, h.lt, fun k hk => ?_, h.nd⟩, ?_⟩
  · have := hA.lt hk
    rw [gN_set OB hl, if_neg (by omega), h.ou k hk]
  · rw [gN_set OB hl, gN_set OB hl, if_pos rfl, if_neg (by omega)]
end
def OnF (n : Nat) (N0 NB : List Nat) (q : Nat) : Prop := NB.length = N0.length ∧ ∀ r, r < N0.length → gN NB r < n + 1 ∧ fo n (gN NB r) = gN N0 r ∧ (q ≤ r → gN NB r = gN N0 r)
theorem OnF.start {n : Nat} {N0 : List Nat} (h : ∀ q, q < N0.length → gN N0 q < n) : OnF n N0 N0 0 := ⟨rfl, fun r hr => ⟨by have := h r hr; omega, fo_of (h r hr), fun _ => rfl⟩⟩
theorem OnF.skip {n q : Nat} {N0 NB : List Nat} (h : OnF n N0 NB q) : OnF n N0 NB (q + 1) := ⟨h.1, fun r hr => ⟨(h.2 r hr).1, (h.2 r hr).2.1, fun h2 => (h.2 r hr).2.2 (by omega)⟩⟩
theorem OnF.turn {n q : Nat} {N0 NB : List Nat} (h : OnF n N0 NB q) (hq : q < N0.length) (e : gN NB q = n - 1) : OnF n N0 (NB.set q n) (q + 1) := by
  refine ⟨by rw [List.length_set]; exact h.1, fun r hr => ?_⟩
  rw [gN_set NB (by rw [h.1]; exact hq)]
  by_cases e2 : r = q
  · rw [if_pos e2]
    refine ⟨by omega, ?_, fun h3 => by omega⟩
    have := (h.2 q hq).2.2 (Nat.le_refl _)
    rw [e2, ← this, e]
    unfold fo
    rw [if_pos rfl]
  · rw [if_neg e2]
    exact ⟨(h.2 r hr).1, (h.2 r hr).2.1, fun h2 => (h.2 r hr).2.2 (by omega)⟩
theorem on_two {n w p : Nat} {T NX OU N0 NB OB : List Nat} {q c : Nat} (hn : n = OU.length) (h0 : 0 < n) (hA : OnA n p T) (hD : OnD n w T NX OU N0 OB c) (hc : ¬ c < w) (ho : gN OB n = gN OB (n - 1)) (hF : OnF n N0 NB q) (hx : ∀ k, k < n → ∀ d, d < w → gN NX (k * w + d) < n) : TwoD NX OU T NB OB w := by
  have e : (n + 1) * w = n * w + w := Nat.succ_mul n w
  have hat : ∀ k, k ≤ n → ∀ d, d < w → k * w + d < N0.length := fun k hk d hd => by
    rw [hD.nl]
    exact at_lt (by omega) hd
  subst hn
  refine ⟨hA.len, by rw [hF.1, hD.nl], hD.ol, fun i hi d hd => ?_, fun d hd => ?_, fun x hx2 => ?_, hD.ou, ho⟩
  · have := hA.lt hi
    rw [(hF.2 _ (hat _ (by omega) d hd)).2.1, hD.nx i hi d hd]
  · rw [(hF.2 _ (hat _ (Nat.le_refl _) d hd)).2.1, (hF.2 _ (hat _ (by omega) d hd)).2.1, hD.nd d (by omega)]
  · obtain ⟨r, hr, rfl⟩ := List.getElem_of_mem hx2
    rw [← gN_lt hr]
    exact (hF.2 r (by rw [← hF.1]; exact hr)).1
theorem on_lab {bs : By} {NX OU T NB OB : List Nat} {p : Nat} (hM : MayA bs NX OU) (hn : OU.length ≤ 256) (hA : OnA OU.length p T) (h : TwoD NX OU T NB OB (NX.length / OU.length)) :
    MayA bs NB OB ∧ ∀ t, Txt t → (dfA bs NB OB).lab 0 t = (dfA bs NX OU).lab 0 t :=
  two_lab hM hn h (f := ut OU.length p) rfl (fun _ hj => ut_lt hj) (fun _ hi => hA.back hi) (fun _ hj => hA.forth hj)
end Go.Proofs.YtdgoilkgplnhfabGreat
namespace Go.Proofs.YtdgoilkgplnhfabGreat
open Go.RowKit Go.Lib
def Fit (x : Int) : Prop := -9223372036854775808 ≤ x ∧ x ≤ 9223372036854775807
theorem fit_of_wf {n : Int} (h : (Lit.int .i64 n).wf = true) : Fit n := by
  simp only [Lit.wf, IntKind.min, IntKind.max, IntKind.signed, IntKind.bits, Bool.and_eq_true, decide_eq_true_eq, if_true] at h
  unfold Fit
  omega
def pkZ (c : Int) (n : Nat) : Nat := (if c < 0 then -(c + 1) else c).toNat % n
theorem pkZ_lt (c : Int) {n : Nat} (h : 0 < n) : pkZ c n < n := Nat.mod_lt _ h
set_option maxRecDepth 100000 in
theorem pick_any (c : Int) (n : Nat) (hc : Fit c) (hn : 0 < n) (hn2 : n ≤ 8589934592) (w : World) : Calls Tryz.prog 7 #[.int .i64 c, .int .i64 n] w fun e w' => e = .returned (.int .i64 (pkZ c n : Nat)) ∧ w' = w := by
  unfold Fit at hc
  have hn0 : ¬ (n : Int) = 0 := by omega
  by_cases h : c < 0
  · have e : ((pkZ c n : Nat) : Int) = (-(c + 1)).tmod n := by
      unfold pkZ
      rw [if_pos h, Int.natCast_emod, Int.toNat_of_nonneg (by omega), Int.tmod_eq_emod_of_nonneg (by omega)]
    rw [e]
    clear e
    have w1 : IntKind.i64.wrap (c + 1) = c + 1 := by simp [IntKind.wrap, IntKind.bits, IntKind.signed]; omega
    have w2 : IntKind.i64.wrap (-(c + 1)) = -(c + 1) := by simp [IntKind.wrap, IntKind.bits, IntKind.signed]; omega
    go_enter Tryz.func7, Tryz.ntmps7
    rw [Int.neg_tmod]
    go_wp2
    go_ret
    exact ⟨rfl, rfl⟩
  · have e : ((pkZ c n : Nat) : Int) = c % n := by
      unfold pkZ
      rw [if_neg h, Int.natCast_emod, Int.toNat_of_nonneg (by omega)]
    rw [e]
    clear e
    go_enter Tryz.func7, Tryz.ntmps7
    go_wp2
    go_ret
    exact ⟨rfl, rfl⟩
end Go.Proofs.YtdgoilkgplnhfabGreat
