/-
  Places by their keys: counted, summed, and filled from each key's end on. Of no program: no condition.
-/
import Derived.Test.YtdgoilkgplnhfaaGreatB19
import Derived.Test.YtdgoilkgplnhfaaGreatB06
namespace Go.Proofs.YtdgoilkgplnhfaaGreat

/-- How often a key stands ahead of a place. -/
def cnt (K : List Nat) (t i : Nat) : Nat := (K.take t).count i
/-- How many keys are less. -/
def cum (K : List Nat) (i : Nat) : Nat := K.countP (fun x => decide (x < i))
theorem cnt_zero (K : List Nat) (i : Nat) : cnt K 0 i = 0 := by simp [cnt]
theorem cnt_succ {K : List Nat} {t : Nat} (h : t < K.length) (i : Nat) : cnt K (t + 1) i = cnt K t i + if gN K t = i then 1 else 0 := by
  unfold cnt
  rw [List.take_succ_eq_append_getElem h, List.count_append, gN_lt h, List.count_singleton]
  simp [beq_iff_eq]
theorem cnt_mono {K : List Nat} (i : Nat) : ∀ {t u : Nat}, t ≤ u → u ≤ K.length → cnt K t i ≤ cnt K u i := fun {t u} h hu => by
  induction u with
  | zero => have : t = 0 := by omega
            subst this; exact Nat.le_refl _
  | succ u ih =>
    by_cases e : t = u + 1
    · subst e; exact Nat.le_refl _
    · rw [cnt_succ (by omega)]
      have := ih (by omega) (by omega)
      omega
theorem cum_zero (K : List Nat) : cum K 0 = 0 := by simp [cum]
theorem cum_succ (K : List Nat) (i : Nat) : cum K (i + 1) = cum K i + cnt K K.length i := by
  unfold cum cnt
  rw [List.take_length]
  induction K with
  | nil => rfl
  | cons x K ih =>
    rw [List.countP_cons, List.countP_cons, List.count_cons, ih]
    have e1 : (x == i) = decide (x = i) := by by_cases e : x = i <;> simp [e]
    rw [e1]
    simp only [decide_eq_true_eq]
    by_cases h1 : x < i
    · rw [if_pos (by omega), if_pos h1, if_neg (by omega)]; omega
    · by_cases h2 : x = i
      · rw [if_pos (by omega), if_neg h1, if_pos h2]; omega
      · rw [if_neg (by omega), if_neg h1, if_neg h2]; omega
theorem cum_mono (K : List Nat) {i j : Nat} (h : i ≤ j) : cum K i ≤ cum K j := by
  induction j with
  | zero => have : i = 0 := by omega
            subst this; exact Nat.le_refl _
  | succ j ih =>
    by_cases e : i = j + 1
    · subst e; exact Nat.le_refl _
    · rw [cum_succ]; have := ih (by omega); omega
theorem cum_le (K : List Nat) (i : Nat) : cum K i ≤ K.length := List.countP_le_length
theorem cum_all {K : List Nat} {q : Nat} (h : ∀ t, t < K.length → gN K t < q) : cum K q = K.length := by
  unfold cum
  rw [List.countP_eq_length]
  intro x hx
  obtain ⟨t, ht, rfl⟩ := List.mem_iff_getElem.1 hx
  have := h t ht
  rw [gN_lt ht] at this
  simp [this]
/-- Where a place is filled in. -/
def pos (K : List Nat) (t : Nat) : Nat := cum K (gN K t + 1) - 1 - cnt K t (gN K t)
theorem pos_at {K : List Nat} {t : Nat} (h : t < K.length) : pos K t + cnt K t (gN K t) + 1 = cum K (gN K t + 1) ∧ cum K (gN K t) ≤ pos K t := by
  have h1 := cnt_succ h (gN K t)
  rw [if_pos rfl] at h1
  have h2 := cnt_mono (K := K) (gN K t) (t := t + 1) (u := K.length) h (Nat.le_refl _)
  have h3 := cum_succ K (gN K t)
  unfold pos
  omega
theorem pos_inj {K : List Nat} {t u : Nat} (ht : t < K.length) (hu : u < K.length) (e : pos K t = pos K u) : t = u := by
  have h1 := pos_at ht
  have h2 := pos_at hu
  have hk : gN K t = gN K u := by
    rcases Nat.lt_trichotomy (gN K t) (gN K u) with h | h | h
    · have := cum_mono K (show gN K t + 1 ≤ gN K u from h); omega
    · exact h
    · have := cum_mono K (show gN K u + 1 ≤ gN K t from h); omega
  rw [hk] at h1
  have hc : cnt K t (gN K u) = cnt K u (gN K u) := by omega
  rcases Nat.lt_trichotomy t u with h | h | h
  · have a1 := cnt_succ ht (gN K u)
    rw [if_pos hk] at a1
    have := cnt_mono (K := K) (gN K u) (t := t + 1) (u := u) h (by omega)
    omega
  · exact h
  · have a1 := cnt_succ hu (gN K u)
    rw [if_pos rfl] at a1
    have := cnt_mono (K := K) (gN K u) (t := u + 1) (u := t) h (by omega)
    omega
theorem cnt_onto {K : List Nat} (i : Nat) : ∀ (t : Nat), t ≤ K.length → ∀ c, c < cnt K t i → ∃ u, u < t ∧ gN K u = i ∧ cnt K u i = c
  | 0, _, c, hc => by rw [cnt_zero] at hc; omega
  | t + 1, ht, c, hc => by
    rw [cnt_succ (by omega)] at hc
    by_cases h : c < cnt K t i
    · obtain ⟨u, h1, h2⟩ := cnt_onto i t (by omega) c h
      exact ⟨u, by omega, h2⟩
    · by_cases e : gN K t = i
      · rw [if_pos e] at hc
        exact ⟨t, by omega, e, by omega⟩
      · rw [if_neg e] at hc; omega
theorem pos_onto {K : List Nat} {i p : Nat} (h1 : cum K i ≤ p) (h2 : p < cum K (i + 1)) : ∃ t, t < K.length ∧ gN K t = i ∧ pos K t = p := by
  have h3 := cum_succ K i
  obtain ⟨t, a, b, c⟩ := cnt_onto (K := K) i K.length (Nat.le_refl _) (cum K (i + 1) - 1 - p) (by omega)
  refine ⟨t, a, b, ?_⟩
  have := pos_at a
  rw [b, c] at this
  omega
/-- Counted. -/
def Cn1 (K : List Nat) (Q t : Nat) (S : List Nat) : Prop := S.length = Q + 1 ∧ ∀ i, i ≤ Q → gN S i = cnt K t i
theorem Cn1.zero (K : List Nat) (Q : Nat) : Cn1 K Q 0 (List.replicate (Q + 1) 0) := ⟨by simp, fun i hi => by rw [cnt_zero, gN_lt (by simp; omega)]; simp⟩
theorem Cn1.next {K : List Nat} {Q t : Nat} {S : List Nat} (h : Cn1 K Q t S) (ht : t < K.length) (hk : gN K t ≤ Q) : Cn1 K Q (t + 1) (S.set (gN K t) (gN S (gN K t) + 1)) := by
  refine ⟨by rw [List.length_set]; exact h.1, fun i hi => ?_⟩
  rw [gN_set _ (by rw [h.1]; omega), cnt_succ ht]
  by_cases e : i = gN K t
  · rw [if_pos e, if_pos e.symm, ← e, h.2 i hi]
  · rw [if_neg e, if_neg (fun e2 => e e2.symm), h.2 i hi]; rfl
/-- Summed. -/
def Cn2 (K : List Nat) (Q j : Nat) (S : List Nat) : Prop := S.length = Q + 1 ∧ ∀ i, i ≤ Q → gN S i = if i < j then cum K (i + 1) else cnt K K.length i
theorem Cn2.start {K : List Nat} {Q : Nat} {S : List Nat} (h : Cn1 K Q K.length S) : Cn2 K Q 0 S := ⟨h.1, fun i hi => by rw [if_neg (by omega)]; exact h.2 i hi⟩
theorem Cn2.next {K : List Nat} {Q j : Nat} {S : List Nat} (h : Cn2 K Q j S) (hj : j ≤ Q) : cum K j + gN S j = cum K (j + 1) ∧ Cn2 K Q (j + 1) (S.set j (cum K (j + 1))) := by
  have h1 := h.2 j hj
  rw [if_neg (by omega)] at h1
  refine ⟨by rw [h1, cum_succ], by rw [List.length_set]; exact h.1, fun i hi => ?_⟩
  rw [gN_set _ (by rw [h.1]; omega)]
  by_cases e : i = j
  · rw [if_pos e, if_pos (by omega), e]
  · rw [if_neg e, h.2 i hi]
    by_cases e2 : i < j
    · rw [if_pos e2, if_pos (by omega)]
    · rw [if_neg e2, if_neg (by omega)]
/-- Filled in. -/
structure Cn3 (K : List Nat) (Q w t : Nat) (S F : List Nat) : Prop where
  sl : S.length = Q + 1
  fl : F.length = K.length
  st : ∀ i, i ≤ Q → gN S i + cnt K t i = cum K (i + 1)
  fr : ∀ u, u < t → gN F (pos K u) = u / w
theorem Cn3.start {K : List Nat} {Q w : Nat} {S F : List Nat} (h : Cn2 K Q (Q + 1) S) (hF : F.length = K.length) : Cn3 K Q w 0 S F :=
  ⟨h.1, hF, fun i hi => by rw [cnt_zero, h.2 i hi, if_pos (by omega)]; rfl, fun u hu => by omega⟩
theorem Cn3.next {K : List Nat} {Q w t : Nat} {S F : List Nat} (h : Cn3 K Q w t S F) (ht : t < K.length) (hk : gN K t < Q) :
    gN S (gN K t) = pos K t + 1 ∧ pos K t < F.length ∧ Cn3 K Q w (t + 1) (S.set (gN K t) (pos K t)) (F.set (pos K t) (t / w)) := by
  have h1 := h.st (gN K t) (by omega)
  have h2 := pos_at ht
  have h3 := cum_le K (gN K t + 1)
  have hp : pos K t < F.length := by rw [h.fl]; omega
  refine ⟨by omega, hp, by rw [List.length_set]; exact h.sl, by rw [List.length_set]; exact h.fl, fun i hi => ?_, fun u hu => ?_⟩
  · rw [gN_set _ (by rw [h.sl]; omega), cnt_succ ht]
    by_cases e : i = gN K t
    · rw [if_pos e, if_pos e.symm, e]; omega
    · rw [if_neg e, if_neg (fun e2 => e e2.symm)]; exact h.st i hi
  · rw [gN_set _ hp]
    by_cases e : u = t
    · rw [e, if_pos rfl]
    · rw [if_neg (fun e2 => e (pos_inj (by omega) ht e2))]
      exact h.fr u (by omega)
/-- Backwards: to the states from which a column leads to one. -/
structure BkS (n w : Nat) (NX S F : List Nat) : Prop where
  sl : S.length = n * w + 1
  fl : F.length = n * w
  le : ∀ c, c < w → ∀ tgt, tgt < n → gN S (c * n + tgt) ≤ gN S (c * n + tgt + 1) ∧ gN S (c * n + tgt + 1) ≤ n * w
  tgt : ∀ c, c < w → ∀ tgt, tgt < n → ∀ p, gN S (c * n + tgt) ≤ p → p < gN S (c * n + tgt + 1) → gN F p < n ∧ gN NX (gN F p * w + c) = tgt
  on : ∀ c, c < w → ∀ s, s < n → ∃ p, gN S (c * n + gN NX (s * w + c)) ≤ p ∧ p < gN S (c * n + gN NX (s * w + c) + 1) ∧ gN F p = s
  nd : ∀ c, c < w → ∀ tgt, tgt < n → ∀ p q, gN S (c * n + tgt) ≤ p → p < gN S (c * n + tgt + 1) → gN S (c * n + tgt) ≤ q → q < gN S (c * n + tgt + 1) → gN F p = gN F q → p = q
/-- The keys: column by column, by the states that follow. -/
def keys (n w : Nat) (NX : List Nat) : List Nat := (List.range NX.length).map fun t => t % w * n + gN NX t
theorem keys_len (n w : Nat) (NX : List Nat) : (keys n w NX).length = NX.length := by simp [keys]
theorem keys_get (n w : Nat) (NX : List Nat) {t : Nat} (h : t < NX.length) : gN (keys n w NX) t = t % w * n + gN NX t := by
  rw [gN_lt (by rw [keys_len]; exact h)]
  simp [keys]
theorem mulq {n a b x y : Nat} (hx : x < n) (hy : y < n) (e : a * n + x = b * n + y) : a = b ∧ x = y := by
  have hn : 0 < n := by omega
  have h1 : (a * n + x) / n = a := by rw [Nat.mul_comm, Nat.mul_add_div hn, Nat.div_eq_of_lt hx]; rfl
  have h2 : (b * n + y) / n = b := by rw [Nat.mul_comm, Nat.mul_add_div hn, Nat.div_eq_of_lt hy]; rfl
  have : a = b := by rw [← h1, ← h2, e]
  subst this
  exact ⟨rfl, by omega⟩
theorem mul_lt {n w c x : Nat} (hc : c < w) (hx : x < n) : c * n + x < n * w := by
  have := Nat.mul_le_mul_right n (show c + 1 ≤ w from hc)
  rw [Nat.succ_mul, Nat.mul_comm w n] at this
  omega
theorem keys_lt {n w : Nat} {NX : List Nat} (hw : 0 < w) (hnl : ∀ t, t < NX.length → gN NX t < n) {t : Nat} (h : t < NX.length) : gN (keys n w NX) t < n * w := by
  rw [keys_get _ _ _ h]
  exact mul_lt (Nat.mod_lt _ hw) (hnl t h)
theorem Cn3.done {n w : Nat} {NX S F : List Nat} (hw : 0 < w) (hl : NX.length = n * w) (hnl : ∀ t, t < NX.length → gN NX t < n) (h : Cn3 (keys n w NX) (n * w) w NX.length S F) : BkS n w NX S F := by
  have hS : ∀ i, i ≤ n * w → gN S i = cum (keys n w NX) i := fun i hi => by
    have h1 := h.st i hi
    have h2 := cum_succ (keys n w NX) i
    rw [keys_len] at h2
    omega
  have key : ∀ c, c < w → ∀ tgt, tgt < n → ∀ p, gN S (c * n + tgt) ≤ p → p < gN S (c * n + tgt + 1) → ∃ t, t < NX.length ∧ t % w = c ∧ gN NX t = tgt ∧ pos (keys n w NX) t = p ∧ gN F p = t / w := fun c hc tgt ht p h1 h2 => by
    have := mul_lt hc ht
    rw [hS _ (by omega)] at h1 h2
    obtain ⟨t, a, b, e⟩ := pos_onto h1 h2
    rw [keys_len] at a
    rw [keys_get _ _ _ a] at b
    obtain ⟨b1, b2⟩ := mulq (hnl t a) ht b
    exact ⟨t, a, b1, b2, e, by rw [← e]; exact h.fr t a⟩
  refine ⟨h.sl, by rw [h.fl, keys_len, hl], fun c hc tgt ht => ?_, fun c hc tgt ht p h1 h2 => ?_, fun c hc s hs => ?_, fun c hc tgt ht p q h1 h2 h3 h4 e => ?_⟩
  · have := mul_lt hc ht
    rw [hS _ (by omega), hS _ (by omega)]
    have a := cum_le (keys n w NX) (c * n + tgt + 1)
    rw [keys_len, hl] at a
    exact ⟨cum_mono _ (by omega), a⟩
  · obtain ⟨t, a, b, e, _, f⟩ := key c hc tgt ht p h1 h2
    have hd := Nat.div_add_mod t w
    rw [Nat.mul_comm, b] at hd
    refine ⟨?_, by rw [f, hd]; exact e⟩
    rw [f, Nat.div_lt_iff_lt_mul hw, ← hl]
    exact a
  · have hat : s * w + c < NX.length := by
      have := Nat.mul_le_mul_right w (show s + 1 ≤ n from hs)
      rw [Nat.succ_mul] at this
      omega
    have hm : (s * w + c) % w = c := by rw [Nat.mul_comm, Nat.mul_add_mod, Nat.mod_eq_of_lt hc]
    have hd : (s * w + c) / w = s := by rw [Nat.mul_comm, Nat.mul_add_div hw, Nat.div_eq_of_lt hc]; rfl
    have hx := hnl _ hat
    have hq := mul_lt hc hx
    have hp := pos_at (K := keys n w NX) (by rw [keys_len]; exact hat)
    rw [keys_get _ _ _ hat, hm] at hp
    rw [hS _ (by omega), hS _ (by omega)]
    exact ⟨_, hp.2, by omega, by rw [h.fr _ hat, hd]⟩
  · obtain ⟨t, a, b, e1, e2, f⟩ := key c hc tgt ht p h1 h2
    obtain ⟨u, a', b', e1', e2', f'⟩ := key c hc tgt ht q h3 h4
    have h5 := Nat.div_add_mod t w
    have h6 := Nat.div_add_mod u w
    rw [b, ← f, e, f', ← b'] at h5
    rw [← e2, ← e2']
    congr 1
    omega
end Go.Proofs.YtdgoilkgplnhfaaGreat
/-
  One split of parts by what leads to some states by a column: marks, then cuts. Of no program: no condition.
-/
namespace Go.Proofs.YtdgoilkgplnhfaaGreat

/-- The parts that have marked states, each once. -/
def TcS (R : List Rm) (Tc : List Nat) : Prop := (∀ k, k ∈ Tc ↔ k < R.length ∧ (gR R k).a < (gR R k).m) ∧ Tc.Nodup
theorem TcS.start {R : List Rm} (h : Plain R) : TcS R [] := ⟨fun k => ⟨fun hk => (by cases hk), fun hk => by have := h k hk.1; omega⟩, List.nodup_nil⟩
theorem TcS.more {R : List Rm} {Tc : List Nat} (h : TcS R Tc) {k : Nat} (hk : k < R.length) (hm : ¬ (gR R k).m = (gR R k).a) (ha : (gR R k).a ≤ (gR R k).m) : TcS (R.set k ⟨(gR R k).a, (gR R k).m + 1, (gR R k).e⟩) Tc := by
  refine ⟨fun j => ?_, h.2⟩
  rw [h.1, List.length_set, gR_set R hk]
  by_cases e : j = k
  · subst e
    rw [if_pos rfl]
    show _ ↔ _ ∧ (gR R j).a < (gR R j).m + 1
    omega
  · rw [if_neg e]
theorem TcS.first {R : List Rm} {Tc : List Nat} (h : TcS R Tc) {k : Nat} (hk : k < R.length) (hm : (gR R k).m = (gR R k).a) : TcS (R.set k ⟨(gR R k).a, (gR R k).m + 1, (gR R k).e⟩) (Tc ++ [k]) := by
  have hn : k ∉ Tc := fun hh => by have := (h.1 k).1 hh; omega
  refine ⟨fun j => ?_, ?_⟩
  · rw [List.mem_append, List.mem_singleton, h.1, List.length_set, gR_set R hk]
    by_cases e : j = k
    · subst e
      rw [if_pos rfl]
      show _ ↔ _ ∧ (gR R j).a < (gR R j).m + 1
      omega
    · rw [if_neg e]
      exact ⟨fun hh => hh.resolve_right e, .inl⟩
  · rw [List.nodup_append]
    exact ⟨h.2, by simp, fun a ha b hb e => hn (by rw [List.mem_singleton.1 hb] at e; rw [← e]; exact ha)⟩
theorem TcS.le {R : List Rm} {Tc : List Nat} (h : TcS R Tc) : Tc.length ≤ R.length :=
  pigeon R.length Tc.length (gN Tc) (fun i hi => by rw [gN_lt hi]; exact ((h.1 _).1 (List.getElem_mem hi)).1) (fun i hi j hj e => by
    rw [gN_lt hi, gN_lt hj] at e
    have hp := List.pairwise_iff_getElem.1 h.2
    rcases Nat.lt_trichotomy i j with h1 | h1 | h1
    · exact absurd e (hp i j hi hj h1)
    · exact h1
    · exact absurd e.symm (hp j i hj hi h1))
/-- Marked: what leads to the states ahead of i, and what of the list stands ahead of p. -/
def mrk (n w c : Nat) (NX S F T : List Nat) (i p : Nat) (s : Nat) : Prop := s < n ∧ ((∃ j, j < i ∧ gN NX (s * w + c) = gN T j) ∨ (gN S (c * n + gN T i) ≤ gN S (c * n + gN T i) ∧ ∃ q, gN S (c * n + gN T i) ≤ q ∧ q < p ∧ q < gN S (c * n + gN T i + 1) ∧ gN F q = s))
section
variable {n w c : Nat} {NX S F T : List Nat}
theorem mrk.new (h : BkS n w NX S F) (hc : c < w) (hT : ∀ j, j < T.length → gN T j < n) (hd : ∀ i, i < T.length → ∀ j, j < T.length → gN T i = gN T j → i = j) {i p : Nat} (hi : i < T.length) (h1 : gN S (c * n + gN T i) ≤ p) (h2 : p < gN S (c * n + gN T i + 1)) : gN F p < n ∧ ¬ mrk n w c NX S F T i p (gN F p) := by
  obtain ⟨a, b⟩ := h.tgt c hc _ (hT i hi) p h1 h2
  refine ⟨a, fun ⟨_, hh⟩ => ?_⟩
  rcases hh with ⟨j, hj, e⟩ | ⟨_, q, e1, e2, e3, e4⟩
  · have := hd i hi j (by omega) (by rw [← b, e])
    omega
  · have := h.nd c hc _ (hT i hi) q p e1 e3 h1 h2 e4
    omega
theorem mrk.next {i p s : Nat} (h1 : gN S (c * n + gN T i) ≤ p) (h2 : p < gN S (c * n + gN T i + 1)) (hn : gN F p < n) : mrk n w c NX S F T i (p + 1) s ↔ (mrk n w c NX S F T i p s ∨ s = gN F p) := by
  constructor
  · rintro ⟨a, hh | ⟨b, q, e1, e2, e3, e4⟩⟩
    · exact .inl ⟨a, .inl hh⟩
    · by_cases e : q = p
      · exact .inr (by rw [← e4, e])
      · exact .inl ⟨a, .inr ⟨b, q, e1, by omega, e3, e4⟩⟩
  · rintro (⟨a, hh | ⟨b, q, e1, e2, e3, e4⟩⟩ | hh)
    · exact ⟨a, .inl hh⟩
    · exact ⟨a, .inr ⟨b, q, e1, by omega, e3, e4⟩⟩
    · exact ⟨by rw [hh]; exact hn, .inr ⟨Nat.le_refl _, p, h1, by omega, h2, hh.symm⟩⟩
/-- All of one state's list. -/
theorem mrk.row (h : BkS n w NX S F) (hc : c < w) (hT : ∀ j, j < T.length → gN T j < n) {i s : Nat} (hi : i < T.length) : mrk n w c NX S F T i (gN S (c * n + gN T i + 1)) s ↔ (s < n ∧ ∃ j, j < i + 1 ∧ gN NX (s * w + c) = gN T j) := by
  constructor
  · rintro ⟨a, ⟨j, hj, e⟩ | ⟨_, q, e1, _, e3, e4⟩⟩
    · exact ⟨a, j, by omega, e⟩
    · exact ⟨a, i, by omega, by rw [← e4]; exact (h.tgt c hc _ (hT i hi) q e1 e3).2⟩
  · rintro ⟨a, j, hj, e⟩
    by_cases e2 : j = i
    · subst e2
      obtain ⟨p, p1, p2, p3⟩ := h.on c hc s a
      rw [e] at p1 p2
      exact ⟨a, .inr ⟨Nat.le_refl _, p, p1, p2, p2, p3⟩⟩
    · exact ⟨a, .inl ⟨j, by omega, e⟩⟩
theorem mrk.begin {i s : Nat} : mrk n w c NX S F T i (gN S (c * n + gN T i)) s ↔ (s < n ∧ ∃ j, j < i ∧ gN NX (s * w + c) = gN T j) := by
  constructor
  · rintro ⟨a, hh | ⟨_, q, e1, e2, _⟩⟩
    · exact ⟨a, hh⟩
    · omega
  · rintro ⟨a, hh⟩
    exact ⟨a, .inl hh⟩
end
theorem MkS.congr {n : Nat} {P O : List Nat} {R : List Rm} {M M' : Nat → Prop} (h : MkS n P O R M) (e : ∀ s, s < n → (M' s ↔ M s)) : MkS n P O R M' := fun s hs => (e s hs).trans (h s hs)
theorem MkS.plain {n : Nat} {L P O : List Nat} {R : List Rm} (h : PtS n L P O R) (hp : Plain R) : MkS n P O R (fun _ => False) := fun s hs => by
  have h1 := h.os s hs
  have := hp _ h1.1
  exact ⟨fun hh => hh.elim, fun hh => by omega⟩
/-- Each state stands alone, if there are as many parts. -/
theorem PtS.alone {n : Nat} {L P O : List Nat} {R : List Rm} (h : PtS n L P O R) (hn : R.length = n) : ∀ s, s < n → ∀ t, t < n → gN O s = gN O t → s = t := fun s hs t ht e => by
  refine Classical.byContradiction fun hne => ?_
  have hf : ∀ k, k < R.length → gN L (gR R k).a < n ∧ gN O (gN L (gR R k).a) = k := fun k hk => by
    have := h.rm k hk
    exact ⟨(h.li _ (by omega)).1, h.ro k hk _ (Nat.le_refl _) (by omega)⟩
  have hk := (h.os s hs).1
  obtain ⟨u, hu, hu1, hu2⟩ : ∃ u, u < n ∧ gN O u = gN O s ∧ ¬ u = gN L (gR R (gN O s)).a := by
    by_cases e1 : s = gN L (gR R (gN O s)).a
    · exact ⟨t, ht, e.symm, fun e2 => hne (e1.trans e2.symm)⟩
    · exact ⟨s, hs, rfl, e1⟩
  have := pigeon n (n + 1) (fun j => if j < n then gN L (gR R j).a else u) (fun i hi => by
    show (if i < n then gN L (gR R i).a else u) < n
    by_cases e1 : i < n
    · rw [if_pos e1]; exact (hf i (by omega)).1
    · rw [if_neg e1]; exact hu) (fun i hi j hj e2 => by
    have e2 : (if i < n then gN L (gR R i).a else u) = (if j < n then gN L (gR R j).a else u) := e2
    by_cases a : i < n
    · by_cases b : j < n
      · rw [if_pos a, if_pos b] at e2
        rw [← (hf i (by omega)).2, ← (hf j (by omega)).2, e2]
      · rw [if_pos a, if_neg b] at e2
        have h1 := (hf i (by omega)).2
        rw [e2, hu1] at h1
        rw [← h1] at e2
        exact absurd e2.symm hu2
    · by_cases b : j < n
      · rw [if_neg a, if_pos b] at e2
        have h1 := (hf j (by omega)).2
        rw [← e2, hu1] at h1
        rw [← h1] at e2
        exact absurd e2 hu2
      · omega)
  omega
end Go.Proofs.YtdgoilkgplnhfaaGreat
/-
  States in parts as they lie in memory: three rows of numbers, one of rooms. Of the program its types alone: no condition.
-/
namespace Go.Proofs.YtdgoilkgplnhfaaGreat
open Go.RowKit Go.Lib

def rmC (r : Rm) : List Value := [.int .i64 (r.a : Int), .int .i64 (r.m : Int), .int .i64 (r.e : Int)]
def rCells : List Rm → List Value
  | [] => []
  | r :: R => rmC r ++ rCells R
theorem rCells_length : ∀ R : List Rm, (rCells R).length = R.length * 3
  | [] => rfl
  | r :: R => by rw [rCells, List.length_append, rCells_length R, List.length_cons]; simp [rmC]; omega
theorem rCells_snoc (r : Rm) : ∀ R : List Rm, rCells (R ++ [r]) = rCells R ++ rmC r
  | [] => by simp [rCells]
  | x :: R => by rw [List.cons_append, rCells, rCells, rCells_snoc r R, List.append_assoc]
theorem rCells_get : ∀ (R : List Rm) (k j : Nat), k < R.length → j < 3 → (rCells R)[k * 3 + j]? = (rmC (gR R k))[j]?
  | [], k, j, h, _ => by cases h
  | r :: R, 0, j, _, hj => by
    rw [rCells, List.getElem?_append_left (by simp [rmC]; omega)]
    simp [gR]
  | r :: R, k + 1, j, h, hj => by
    rw [rCells, List.getElem?_append_right (by simp [rmC]; omega)]
    have e : (k + 1) * 3 + j - (rmC r).length = k * 3 + j := by simp [rmC]; omega
    rw [e, rCells_get R k j (by simpa using h) hj]
    simp [gR]
theorem rCells_set : ∀ (R : List Rm) (k : Nat) (r : Rm), k < R.length → rCells (R.set k r) = (rCells R).take (k * 3) ++ rmC r ++ (rCells R).drop (k * 3 + 3)
  | [], k, r, h => by cases h
  | x :: R, 0, r, _ => by
    simp [rCells, rmC]
  | x :: R, k + 1, r, h => by
    have e1 : (k + 1) * 3 = (rmC x).length + k * 3 := by simp [rmC]; omega
    rw [List.set_cons_succ, rCells, rCells, rCells_set R k r (by simpa using h), e1, List.take_append, List.drop_append]
    have : (rmC x).take ((rmC x).length + k * 3) = rmC x := List.take_of_length_le (by omega)
    rw [this, List.drop_of_length_le (show (rmC x).length ≤ (rmC x).length + k * 3 + 3 by omega), show (rmC x).length + k * 3 + 3 - (rmC x).length = k * 3 + 3 by omega, Nat.add_sub_cancel_left]
    simp [List.append_assoc]
theorem rCells_mark (R : List Rm) (k : Nat) (h : k < R.length) (m : Nat) : (rCells R).set (k * 3 + 1) (.int .i64 (m : Int)) = rCells (R.set k ⟨(gR R k).a, m, (gR R k).e⟩) := by
  refine List.ext_getElem? (fun i => ?_)
  rw [List.getElem?_set]
  by_cases hi : i < R.length * 3
  · have hd := Nat.div_add_mod i 3
    obtain ⟨q, j, hj, rfl⟩ : ∃ q j, j < 3 ∧ i = q * 3 + j := ⟨i / 3, i % 3, by omega, by omega⟩
    rw [rCells_get (R.set k _) q j (by rw [List.length_set]; omega) hj, gR_set R h, rCells_length]
    by_cases e : q = k
    · subst e
      rw [if_pos rfl]
      match j, hj with
      | 0, _ => rw [if_neg (by omega), rCells_get _ _ _ h (by omega)]; simp [rmC]
      | 1, _ => rw [if_pos rfl, if_pos (by omega)]; simp [rmC]
      | 2, _ => rw [if_neg (by omega), rCells_get _ _ _ h (by omega)]; simp [rmC]
    · rw [if_neg (by omega), if_neg e, rCells_get _ _ _ (by omega) hj]
  · rw [if_neg (by omega), List.getElem?_eq_none (by rw [rCells_length]; omega), List.getElem?_eq_none (by rw [rCells_length, List.length_set]; omega)]
/-- Rooms in a row of their own. -/
def OwnR (w : World) (base : Nat) (v : Value) (R : List Rm) : Prop := w.ownsRow base 164 3 v R.length (rCells R)
theorem OwnR.shape {w : World} {base : Nat} {v : Value} {R : List Rm} (h : OwnR w base v R) : ∃ ao cap, v = .slice ao R.length cap := by
  obtain ⟨a, k, e, _⟩ := own_shape (show w.ownsRow base 164 3 v R.length (rCells R) from h)
  exact ⟨a, k, e⟩
theorem OwnR.at {w : World} {base : Nat} {v : Value} {R : List Rm} (h : OwnR w base v R) (h0 : 0 < R.length) : ∃ g cap, v = .slice (some ⟨g, 0, none⟩) R.length cap := by
  have hh : w.ownsRow base 164 3 v R.length (rCells R) := h
  rcases hh.2 with ⟨rfl, hn⟩ | ⟨g, cap, cur, rfl, _⟩
  · omega
  · exact ⟨g, cap, rfl⟩
section
variable {w : World} {base g cap : Nat} {R : List Rm}
theorem OwnR.cell (h : OwnR w base (.slice (some ⟨g, 0, none⟩) R.length cap) R) {k j : Nat} (hk : k < R.length) (hj : j < 3) : w.cell? ⟨g, k * 3 + j, none⟩ = (rmC (gR R k))[j]? := by
  have hh : w.ownsRow base 164 3 (.slice (some ⟨g, 0, none⟩) R.length cap) R.length (rCells R) := h
  rw [hh.cellAt _ (by omega), rCells_get R k j hk hj]
theorem OwnR.mark (h : OwnR w base (.slice (some ⟨g, 0, none⟩) R.length cap) R) {k : Nat} (hk : k < R.length) (m : Nat) :
    OwnR (w.setCell ⟨g, k * 3 + 1, none⟩ (.int .i64 (m : Int))) base (.slice (some ⟨g, 0, none⟩) R.length cap) (R.set k ⟨(gR R k).a, m, (gR R k).e⟩) ∧ Kept (fun b => b = g) w (w.setCell ⟨g, k * 3 + 1, none⟩ (.int .i64 (m : Int))) := by
  have hh : w.ownsRow base 164 3 (.slice (some ⟨g, 0, none⟩) R.length cap) R.length (rCells R) := h
  obtain ⟨h1, h2⟩ := hh.stored (k * 3 + 1) (.int .i64 (m : Int))
  refine ⟨?_, (kept_of_grown h2).mono (fun b hb => by injection hb with hb; exact hb.symm)⟩
  unfold OwnR
  rw [List.length_set, ← rCells_mark R k hk]
  exact h1
end
/-- The parts' own block, their rows, their rooms. -/
structure PrM (w : World) (base pb : Nat) (lv pv ov rv : Value) (L P O : List Nat) (R : List Rm) : Prop where
  blk : w.heap[pb]? = some (.cells #[lv, pv, ov, rv] 161 (0, 0))
  ge : base ≤ pb
  rws : Rws w base [(lv, L), (pv, P), (ov, O)]
  own : OwnR w base rv R
/-- The blocks of the rows. -/
def inP (lv pv ov rv : Value) (b : Nat) : Prop := lv.ownBlock = some b ∨ pv.ownBlock = some b ∨ ov.ownBlock = some b ∨ rv.ownBlock = some b
section
variable {w w' : World} {base pb : Nat} {lv pv ov rv : Value} {L P O : List Nat} {R : List Rm}
theorem PrM.kept {F : Nat → Prop} (h : PrM w base pb lv pv ov rv L P O R) (x : Kept F w w') (h1 : ¬ F pb) (h2 : ∀ b, inP lv pv ov rv b → ¬ F b) : PrM w' base pb lv pv ov rv L P O R :=
  ⟨(x.block pb (lt_of_block h.blk) h1).trans h.blk, h.ge, h.rws.kept x (fun j hj b hb => h2 b (by
    match j, hj with
    | 0, _ => exact .inl hb
    | 1, _ => exact .inr (.inl hb)
    | 2, _ => exact .inr (.inr (.inl hb)))), own_kept h.own x (fun b hb => h2 b (.inr (.inr (.inr hb))))⟩
theorem PrM.below (h : PrM w base pb lv pv ov rv L P O R) (x : Below w.heap.size w w') : PrM w' base pb lv pv ov rv L P O R :=
  ⟨(x.block pb (lt_of_block h.blk)).trans h.blk, h.ge, h.rws.below x, own_below h.own x⟩
theorem PrM.notpb (h : PrM w base pb lv pv ov rv L P O R) : ∀ b, inP lv pv ov rv b → ¬ b = pb := fun b hb e => by
  subst e
  have hx : ∀ (j : Nat) (hj : j < 3), ([(lv, L), (pv, P), (ov, O)] : List RN)[j].1.ownBlock = some b → False := fun j hj hf => by
    obtain ⟨cs, h2⟩ := own_ty (show w.ownsRow base 3 1 _ _ (nCells _) from h.rws.own j hj) b hf
    rw [h.blk] at h2
    simp at h2
  rcases hb with hb | hb | hb | hb
  · exact hx 0 (by decide) hb
  · exact hx 1 (by decide) hb
  · exact hx 2 (by decide) hb
  · obtain ⟨cs, h2⟩ := own_ty (show w.ownsRow base 164 3 rv R.length (rCells R) from h.own) b hb
    rw [h.blk] at h2
    simp at h2
theorem PrM.cells (h : PrM w base pb lv pv ov rv L P O R) : w.cell? ⟨pb, 0, none⟩ = some lv ∧ w.cell? ⟨pb, 1, none⟩ = some pv ∧ w.cell? ⟨pb, 2, none⟩ = some ov ∧ w.cell? ⟨pb, 3, none⟩ = some rv :=
  ⟨by rw [cell_of_row _ _ _ _ _ _ h.blk]; rfl, by rw [cell_of_row _ _ _ _ _ _ h.blk]; rfl, by rw [cell_of_row _ _ _ _ _ _ h.blk]; rfl, by rw [cell_of_row _ _ _ _ _ _ h.blk]; rfl⟩
/-- A mark: five cells. -/
theorem PrM.mark {lg pg rg nl cl np cp cr : Nat} (h : PrM w base pb (.slice (some ⟨lg, 0, none⟩) nl cl) (.slice (some ⟨pg, 0, none⟩) np cp) ov (.slice (some ⟨rg, 0, none⟩) R.length cr) L P O R) (m s q o k : Nat) (hk : k < R.length) :
    PrM (((((w.setCell ⟨lg, m, none⟩ (.int .i64 (s : Int))).setCell ⟨lg, q, none⟩ (.int .i64 (o : Int))).setCell ⟨pg, o, none⟩ (.int .i64 (q : Int))).setCell ⟨pg, s, none⟩ (.int .i64 (m : Int))).setCell ⟨rg, k * 3 + 1, none⟩ (.int .i64 ((m + 1 : Nat) : Int))) base pb (.slice (some ⟨lg, 0, none⟩) nl cl) (.slice (some ⟨pg, 0, none⟩) np cp) ov (.slice (some ⟨rg, 0, none⟩) R.length cr) ((L.set m s).set q o) ((P.set o q).set s m) O (R.set k ⟨(gR R k).a, m + 1, (gR R k).e⟩) ∧
    Kept (inP (.slice (some ⟨lg, 0, none⟩) nl cl) (.slice (some ⟨pg, 0, none⟩) np cp) ov (.slice (some ⟨rg, 0, none⟩) R.length cr)) w (((((w.setCell ⟨lg, m, none⟩ (.int .i64 (s : Int))).setCell ⟨lg, q, none⟩ (.int .i64 (o : Int))).setCell ⟨pg, o, none⟩ (.int .i64 (q : Int))).setCell ⟨pg, s, none⟩ (.int .i64 (m : Int))).setCell ⟨rg, k * 3 + 1, none⟩ (.int .i64 ((m + 1 : Nat) : Int))) := by
  have hl : inP (.slice (some ⟨lg, 0, none⟩) nl cl) (.slice (some ⟨pg, 0, none⟩) np cp) ov (.slice (some ⟨rg, 0, none⟩) R.length cr) lg := .inl rfl
  have hp : inP (.slice (some ⟨lg, 0, none⟩) nl cl) (.slice (some ⟨pg, 0, none⟩) np cp) ov (.slice (some ⟨rg, 0, none⟩) R.length cr) pg := .inr (.inl rfl)
  have hr : inP (.slice (some ⟨lg, 0, none⟩) nl cl) (.slice (some ⟨pg, 0, none⟩) np cp) ov (.slice (some ⟨rg, 0, none⟩) R.length cr) rg := .inr (.inr (.inr rfl))
  have r1 := h.rws.store (i := 0) (by simp) rfl m s
  have r2 := r1.store (i := 0) (by simp) rfl q o
  have r3 := r2.store (i := 1) (by simp) rfl o q
  have r4 := r3.store (i := 1) (by simp) rfl s m
  have oL : w.ownsRow base 3 1 (.slice (some ⟨lg, 0, none⟩) nl cl) L.length (nCells L) := h.rws.own 0 (by simp)
  have oP : w.ownsRow base 3 1 (.slice (some ⟨pg, 0, none⟩) np cp) P.length (nCells P) := h.rws.own 1 (by simp)
  have oR : w.ownsRow base 164 3 (.slice (some ⟨rg, 0, none⟩) R.length cr) R.length (rCells R) := h.own
  have k4 : Kept (fun b => b = lg ∨ b = pg) w ((((w.setCell ⟨lg, m, none⟩ (.int .i64 (s : Int))).setCell ⟨lg, q, none⟩ (.int .i64 (o : Int))).setCell ⟨pg, o, none⟩ (.int .i64 (q : Int))).setCell ⟨pg, s, none⟩ (.int .i64 (m : Int))) :=
    ((((Kept.refl _ _).setCell (p := ⟨lg, m, none⟩) (.inl rfl) _).setCell (p := ⟨lg, q, none⟩) (.inl rfl) _).setCell (p := ⟨pg, o, none⟩) (.inr rfl) _).setCell (p := ⟨pg, s, none⟩) (.inr rfl) _
  have o4 : OwnR ((((w.setCell ⟨lg, m, none⟩ (.int .i64 (s : Int))).setCell ⟨lg, q, none⟩ (.int .i64 (o : Int))).setCell ⟨pg, o, none⟩ (.int .i64 (q : Int))).setCell ⟨pg, s, none⟩ (.int .i64 (m : Int))) base (.slice (some ⟨rg, 0, none⟩) R.length cr) R := own_kept oR k4 (fun b hb e => by
    rcases e with e | e
    · exact own_ne oR oL (by decide) b hb (by rw [e]; rfl)
    · exact own_ne oR oP (by decide) b hb (by rw [e]; rfl))
  obtain ⟨o5, k5⟩ := o4.mark hk (m + 1)
  have r5 := r4.kept k5 (fun j hj b hb e => by
    subst e
    exact own_ne (show ((((w.setCell ⟨lg, m, none⟩ (.int .i64 (s : Int))).setCell ⟨lg, q, none⟩ (.int .i64 (o : Int))).setCell ⟨pg, o, none⟩ (.int .i64 (q : Int))).setCell ⟨pg, s, none⟩ (.int .i64 (m : Int))).ownsRow base 3 1 _ _ (nCells _) from r4.own j hj) o4 (by decide) _ hb rfl)
  have kk := (k4.mono (G := inP (.slice (some ⟨lg, 0, none⟩) nl cl) (.slice (some ⟨pg, 0, none⟩) np cp) ov (.slice (some ⟨rg, 0, none⟩) R.length cr)) (fun b hb => hb.elim (fun e => e ▸ hl) (fun e => e ▸ hp))).trans (k5.mono (fun b e => e ▸ hr))
  refine ⟨⟨(kk.block pb (lt_of_block h.blk) (fun hb => h.notpb _ hb rfl)).trans h.blk, h.ge, r5, o5⟩, kk⟩
end
end Go.Proofs.YtdgoilkgplnhfaaGreat
