/-
  An arena as a list of nodes, what Make tells of it, in pure words; keys of nodes. Of no program: no condition.
-/
import Derived.Below
namespace Go.Proofs.Ytaafeflbanoncaa
open Go.RowKit

abbrev Nd := Int × List Int
def lvl (S : List Int) (N : List Nd) (f : Int) : Int := if 2 ≤ f ∧ f < (N.length : Int) + 2 then (N.getD (f - 2).toNat (0, [])).1 else (S.length : Int)
def hasR (N : List Nd) (f : Int) : Prop := 0 ≤ f ∧ f < (N.length : Int) + 2
instance (N : List Nd) (f : Int) : Decidable (hasR N f) := inferInstanceAs (Decidable (_ ∧ _))
structure May (S : List Int) (N : List Nd) (lv : Int) (ks : List Int) : Prop where
  ge : 0 ≤ lv
  lt : lv < (S.length : Int)
  len : (ks.length : Int) = S.getD lv.toNat 0
  kid : ∀ f ∈ ks, hasR N f ∧ lv < lvl S N f
def One (ks : List Int) : Prop := ∀ f ∈ ks, f = ks.getD 0 0
/-- What Make tells. -/
def MkP (S : List Int) (M : Int) (N : List Nd) (lv : Int) (ks : List Int) (f e : Int) (N' : List Nd) : Prop :=
  (¬ May S N lv ks ∧ f = 0 ∧ e = 1 ∧ N' = N) ∨
  (May S N lv ks ∧ One ks ∧ f = ks.getD 0 0 ∧ e = 0 ∧ N' = N) ∨
  (May S N lv ks ∧ ¬ One ks ∧ (∃ i : Nat, N[i]? = some (lv, ks) ∧ f = (i : Int) + 2) ∧ e = 0 ∧ N' = N) ∨
  (May S N lv ks ∧ ¬ One ks ∧ (lv, ks) ∉ N ∧ M ≤ (N.length : Int) ∧ f = 0 ∧ e = 2 ∧ N' = N) ∨
  (May S N lv ks ∧ ¬ One ks ∧ (lv, ks) ∉ N ∧ (N.length : Int) < M ∧ f = (N.length : Int) + 2 ∧ e = 0 ∧ N' = N ++ [(lv, ks)])
/-- Sizes that may be. -/
structure SzOk (S : List Int) : Prop where
  ge : 1 ≤ S.length
  le : S.length ≤ 12
  each : ∀ s ∈ S, 1 ≤ s ∧ s ≤ 256
structure Ok (S : List Int) (M : Int) (N : List Nd) : Prop where
  sz : SzOk S
  m0 : 0 ≤ M
  m1 : M ≤ 8192
  few : (N.length : Int) ≤ M
  nod : N.Nodup
  each : ∀ i (h : i < N.length), May S (N.take i) (N[i]).1 (N[i]).2 ∧ ¬ One (N[i]).2
theorem lvl_take {S : List Int} {N : List Nd} {i : Nat} {f : Int} (h : hasR (N.take i) f) : lvl S (N.take i) f = lvl S N f := by
  unfold hasR at h
  rw [List.length_take] at h
  unfold lvl
  rw [List.length_take]
  by_cases h2 : 2 ≤ f
  · rw [if_pos ⟨h2, by omega⟩, if_pos ⟨h2, by omega⟩]
    simp only [List.getD_eq_getElem?_getD]
    rw [List.getElem?_take_of_lt (by omega)]
  · rw [if_neg (fun h => h2 h.1), if_neg (fun h => h2 h.1)]
theorem lvl_take_of {N : List Nd} {i : Nat} {f : Int} (h : hasR (N.take i) f) : hasR N f := by
  unfold hasR at *
  rw [List.length_take] at h
  omega
theorem May.up {S : List Int} {N : List Nd} {i : Nat} {lv : Int} {ks : List Int} (h : May S (N.take i) lv ks) : May S N lv ks :=
  ⟨h.ge, h.lt, h.len, fun f hf => ⟨lvl_take_of (h.kid f hf).1, by rw [← lvl_take (h.kid f hf).1]; exact (h.kid f hf).2⟩⟩
theorem Ok.may {S : List Int} {M : Int} {N : List Nd} (h : Ok S M N) {i : Nat} (hi : i < N.length) : May S N (N[i]).1 (N[i]).2 := (h.each i hi).1.up
theorem Ok.nil {S : List Int} {M : Int} (h : SzOk S) (h0 : 0 ≤ M) (h1 : M ≤ 8192) : Ok S M [] := ⟨h, h0, h1, by simpa using h0, List.nodup_nil, fun i h => by simp at h⟩
theorem Ok.take {S : List Int} {M : Int} {N : List Nd} (h : Ok S M N) (n : Nat) : Ok S M (N.take n) := by
  refine ⟨h.sz, h.m0, h.m1, by have := h.few; rw [List.length_take]; omega, h.nod.sublist (List.take_sublist _ _), fun i hi => ?_⟩
  rw [List.length_take] at hi
  rw [List.getElem_take, List.take_take, Nat.min_eq_left (by omega)]
  exact h.each i (by omega)
theorem Ok.add {S : List Int} {M : Int} {N : List Nd} (h : Ok S M N) {lv : Int} {ks : List Int} (h1 : May S N lv ks) (h2 : ¬ One ks) (h3 : (lv, ks) ∉ N) (h4 : (N.length : Int) < M) : Ok S M (N ++ [(lv, ks)]) := by
  refine ⟨h.sz, h.m0, h.m1, by rw [List.length_append, List.length_singleton]; omega, ?_, fun i hi => ?_⟩
  · rw [List.nodup_append]
    refine ⟨h.nod, List.nodup_cons.2 ⟨by simp, List.nodup_nil⟩, fun a ha b hb e => ?_⟩
    rw [List.mem_singleton.1 hb] at e
    subst e
    exact h3 ha
  · by_cases hn : i < N.length
    · rw [List.getElem_append_left hn, List.take_append_of_le_length (by omega)]
      exact h.each i hn
    · have : i = N.length := by rw [List.length_append, List.length_singleton] at hi; omega
      subst this
      rw [List.getElem_append_right (Nat.le_refl _), List.take_left']
      · simpa using ⟨h1, h2⟩
      · rfl
theorem MkP.ok {S : List Int} {M : Int} {N N' : List Nd} {lv f e : Int} {ks : List Int} (h : Ok S M N) (k : MkP S M N lv ks f e N') : Ok S M N' := by
  rcases k with ⟨_, _, _, rfl⟩ | ⟨_, _, _, _, rfl⟩ | ⟨_, _, _, _, rfl⟩ | ⟨_, _, _, _, _, _, rfl⟩ | ⟨h1, h2, h3, h4, _, _, rfl⟩
  · exact h
  · exact h
  · exact h
  · exact h
  · exact h.add h1 h2 h3 h4
theorem mem_of_at {N : List Nd} {i : Nat} {x : Nd} (h : N[i]? = some x) : x ∈ N := List.mem_of_getElem? h
theorem at_lt {N : List Nd} {i : Nat} {x : Nd} (h : N[i]? = some x) : i < N.length := by
  rcases Nat.lt_or_ge i N.length with h1 | h1
  · exact h1
  · rw [List.getElem?_eq_none h1] at h; cases h
theorem nodup_at {N : List Nd} (hn : N.Nodup) {i j : Nat} {x : Nd} (h1 : N[i]? = some x) (h2 : N[j]? = some x) : i = j := by
  have a := at_lt h1
  have b := at_lt h2
  rw [List.getElem?_eq_getElem a] at h1
  rw [List.getElem?_eq_getElem b] at h2
  have e : N[i] = N[j] := (Option.some.inj h1).trans (Option.some.inj h2).symm
  have hp := List.pairwise_iff_getElem.1 hn
  rcases Nat.lt_trichotomy i j with h | h | h
  · exact absurd e (hp i j a b h)
  · exact h
  · exact absurd e.symm (hp j i b a h)
/-- What is told is one thing. -/
theorem MkP.one {S : List Int} {M : Int} {N N1 N2 : List Nd} {lv f1 e1 f2 e2 : Int} {ks : List Int} (h : N.Nodup) (a : MkP S M N lv ks f1 e1 N1) (b : MkP S M N lv ks f2 e2 N2) : f1 = f2 ∧ e1 = e2 ∧ N1 = N2 := by
  rcases a with ⟨a0, rfl, rfl, rfl⟩ | ⟨a0, a1, rfl, rfl, rfl⟩ | ⟨a0, a1, ⟨i, a2, rfl⟩, rfl, rfl⟩ | ⟨a0, a1, a2, a3, rfl, rfl, rfl⟩ | ⟨a0, a1, a2, a3, rfl, rfl, rfl⟩ <;>
  rcases b with ⟨b0, rfl, rfl, rfl⟩ | ⟨b0, b1, rfl, rfl, rfl⟩ | ⟨b0, b1, ⟨j, b2, rfl⟩, rfl, rfl⟩ | ⟨b0, b1, b2, b3, rfl, rfl, rfl⟩ | ⟨b0, b1, b2, b3, rfl, rfl, rfl⟩ <;>
  first
  | exact ⟨rfl, rfl, rfl⟩
  | exact absurd b0 a0
  | exact absurd a0 b0
  | exact absurd b1 a1
  | exact absurd a1 b1
  | (exfalso; exact a2 (mem_of_at b2))
  | (exfalso; exact b2 (mem_of_at a2))
  | (exfalso; omega)
  | (have := nodup_at h a2 b2; subst this; exact ⟨rfl, rfl, rfl⟩)
/-- A node's key. -/
def keyB (lv : Int) (ks : List Int) : List UInt8 := UInt8.ofNat lv.toNat :: ks.flatMap fun f => [UInt8.ofNat (f.toNat / 256), UInt8.ofNat (f.toNat % 256)]
theorem u8_inj {a b : Nat} (ha : a < 256) (hb : b < 256) (h : UInt8.ofNat a = UInt8.ofNat b) : a = b := by
  have := congrArg UInt8.toNat h
  simp [UInt8.toNat_ofNat'] at this
  omega
theorem kids_inj : ∀ (a b : List Int), (∀ f ∈ a, 0 ≤ f ∧ f < 65536) → (∀ f ∈ b, 0 ≤ f ∧ f < 65536) → (a.flatMap fun f => [UInt8.ofNat (f.toNat / 256), UInt8.ofNat (f.toNat % 256)]) = (b.flatMap fun f => [UInt8.ofNat (f.toNat / 256), UInt8.ofNat (f.toNat % 256)]) → a = b
  | [], [], _, _, _ => rfl
  | [], _ :: _, _, _, h => by simp at h
  | _ :: _, [], _, _, h => by simp at h
  | x :: a, y :: b, ha, hb, h => by
    simp only [List.flatMap_cons, List.cons_append, List.nil_append, List.cons.injEq] at h
    obtain ⟨h1, h2, h3⟩ := h
    have hx := ha x (by simp)
    have hy := hb y (by simp)
    have e1 := u8_inj (by omega) (by omega) h1
    have e2 := u8_inj (by omega) (by omega) h2
    have e : x = y := by omega
    rw [e, kids_inj a b (fun f hf => ha f (by simp [hf])) (fun f hf => hb f (by simp [hf])) h3]
theorem keyB_inj {l1 l2 : Int} {a b : List Int} (h1 : 0 ≤ l1 ∧ l1 < 256) (h2 : 0 ≤ l2 ∧ l2 < 256) (ha : ∀ f ∈ a, 0 ≤ f ∧ f < 65536) (hb : ∀ f ∈ b, 0 ≤ f ∧ f < 65536) (h : keyB l1 a = keyB l2 b) : (l1, a) = (l2, b) := by
  unfold keyB at h
  simp only [List.cons.injEq] at h
  have e1 := u8_inj (by omega) (by omega) h.1
  have e2 := kids_inj a b ha hb h.2
  have : l1 = l2 := by omega
  rw [this, e2]
theorem keyB_length (lv : Int) (ks : List Int) : (keyB lv ks).length = 1 + 2 * ks.length := by
  unfold keyB
  rw [List.length_cons]
  have : (ks.flatMap fun f => [UInt8.ofNat (f.toNat / 256), UInt8.ofNat (f.toNat % 256)]).length = 2 * ks.length := by
    induction ks with
    | nil => rfl
    | cons x l ih => rw [List.flatMap_cons, List.length_append, ih, List.length_cons, List.length_cons]; simp; omega
  omega
theorem May.rng {S : List Int} {M : Int} {N N0 : List Nd} {lv : Int} {ks : List Int} (h : Ok S M N0) (hl : N.length ≤ 8192) (m : May S N lv ks) : (0 ≤ lv ∧ lv < 256) ∧ (∀ f ∈ ks, 0 ≤ f ∧ f < 65536) ∧ ks.length ≤ 256 ∧ 1 ≤ ks.length := by
  have h1 := m.ge
  have h2 := m.lt
  have h3 := h.sz.le
  have h4 := m.len
  refine ⟨⟨h1, by omega⟩, fun f hf => ?_, ?_⟩
  · have := (m.kid f hf).1
    unfold hasR at this
    omega
  · have hm : S.getD lv.toNat 0 ∈ S := by
      rw [List.getD_eq_getElem?_getD, List.getElem?_eq_getElem (by omega)]
      exact List.getElem_mem _
    have := h.sz.each _ hm
    omega
theorem Ok.key_inj {S : List Int} {M : Int} {N : List Nd} (h : Ok S M N) {l1 l2 : Int} {a b : List Int} (h1 : May S N l1 a) (h2 : May S N l2 b) (e : keyB l1 a = keyB l2 b) : (l1, a) = (l2, b) := by
  have hf := h.few
  have hm := h.m1
  obtain ⟨a1, a2, _⟩ := h1.rng h (by omega)
  obtain ⟨b1, b2, _⟩ := h2.rng h (by omega)
  exact keyB_inj a1 b1 a2 b2 e
end Go.Proofs.Ytaafeflbanoncaa
/-
  Two refs of an arena are the same just if they say the same of all points: in pure words, of the list of nodes. Of no program: no condition.
-/
namespace Go.Proofs.Ytaafeflbanoncaa
open Go.RowKit

/-- What a ref says of a point, within so many steps. -/
def sayN (N : List Nd) (p : Nat → Nat) : Nat → Int → Bool
  | 0, f => decide (f = 1)
  | n + 1, f => if 2 ≤ f then sayN N p n ((N.getD (f - 2).toNat (0, [])).2.getD (p (N.getD (f - 2).toNat (0, [])).1.toNat) 0) else decide (f = 1)
def sayR (N : List Nd) (p : Nat → Nat) (f : Int) : Bool := sayN N p f.toNat f
/-- A point: a class for each level. -/
def Pnt (S : List Int) (p : Nat → Nat) : Prop := ∀ l, l < S.length → (p l : Int) < S.getD l 0
def upd (p : Nat → Nat) (l c : Nat) : Nat → Nat := fun j => if j = l then c else p j
theorem upd_at (p : Nat → Nat) (l c : Nat) : upd p l c l = c := by simp [upd]
theorem upd_ne (p : Nat → Nat) {l j : Nat} (c : Nat) (h : j ≠ l) : upd p l c j = p j := by simp [upd, h]
theorem Pnt.upd {S : List Int} {p : Nat → Nat} (h : Pnt S p) {l c : Nat} (hc : (c : Int) < S.getD l 0) : Pnt S (upd p l c) := fun j hj => by
  by_cases e : j = l
  · subst e; rw [upd_at]; exact hc
  · rw [upd_ne p c e]; exact h j hj
theorem Pnt.zero {S : List Int} (h : SzOk S) : Pnt S (fun _ => 0) := fun l hl => by
  have hm : S.getD l 0 ∈ S := by
    rw [List.getD_eq_getElem?_getD, List.getElem?_eq_getElem hl]
    exact List.getElem_mem _
  have := (h.each _ hm).1
  simp only [Int.natCast_zero]
  omega
section
variable {S : List Int} {M : Int} {N : List Nd} {p : Nat → Nat} {f g : Int}
/-- What is known of a node. -/
structure NdAt (S : List Int) (N : List Nd) (f : Int) (l : Nat) (ks : List Int) : Prop where
  at_ : N[(f - 2).toNat]? = some ((l : Int), ks)
  lt : l < S.length
  len : (ks.length : Int) = S.getD l 0
  one : ¬ One ks
  lev : lvl S N f = (l : Int)
  kid : ∀ c, c < ks.length → 0 ≤ ks.getD c 0 ∧ ks.getD c 0 < f ∧ (l : Int) < lvl S N (ks.getD c 0)
  say : ∀ n p, sayN N p (n + 1) f = sayN N p n (ks.getD (p l) 0)
theorem Ok.ndAt (h : Ok S M N) (h2 : 2 ≤ f) (hf : f < (N.length : Int) + 2) : ∃ l ks, NdAt S N f l ks := by
  have hk : (f - 2).toNat < N.length := by omega
  obtain ⟨h1, h3⟩ := h.each _ hk
  have h4 := h1.ge
  have h5 := h1.lt
  have hat : N[(f - 2).toNat]? = some ((((N[(f - 2).toNat]).1.toNat : Nat) : Int), (N[(f - 2).toNat]).2) := by
    rw [List.getElem?_eq_getElem hk, Int.toNat_of_nonneg h4]
  have hgd : N.getD (f - 2).toNat (0, []) = N[(f - 2).toNat] := by rw [List.getD_eq_getElem?_getD, List.getElem?_eq_getElem hk]; rfl
  refine ⟨(N[(f - 2).toNat]).1.toNat, (N[(f - 2).toNat]).2, hat, by omega, h1.len, h3, ?_, fun c hc => ?_, fun n p => ?_⟩
  · unfold lvl
    rw [if_pos ⟨h2, hf⟩, hgd, Int.toNat_of_nonneg h4]
  · have hmem : (N[(f - 2).toNat]).2.getD c 0 ∈ (N[(f - 2).toNat]).2 := by
      rw [List.getD_eq_getElem?_getD, List.getElem?_eq_getElem hc]
      exact List.getElem_mem _
    obtain ⟨h6, h7⟩ := h1.kid _ hmem
    rw [lvl_take h6] at h7
    unfold hasR at h6
    rw [List.length_take] at h6
    exact ⟨h6.1, by omega, by omega⟩
  · rw [sayN, if_pos h2, hgd]
theorem NdAt.cls {l : Nat} {ks : List Int} (h : NdAt S N f l ks) (hp : Pnt S p) : p l < ks.length := by
  have := hp l h.lt
  have := h.len
  omega
theorem sayN_low (n : Nat) (h : ¬ 2 ≤ f) : sayN N p n f = decide (f = 1) := by
  cases n with
  | zero => rfl
  | succ n => rw [sayN, if_neg h]
/-- More steps say no more. -/
theorem sayN_eq (h : Ok S M N) (hp : Pnt S p) : ∀ (k : Nat) (f : Int) (n m : Nat), f.toNat ≤ k → 0 ≤ f → f < (N.length : Int) + 2 → f.toNat ≤ n → f.toNat ≤ m → sayN N p n f = sayN N p m f := by
  intro k
  induction k with
  | zero => intro f n m h1 h2 _ _ _; rw [sayN_low n (by omega), sayN_low m (by omega)]
  | succ k ih =>
    intro f n m h1 h2 h3 h4 h5
    by_cases hf : 2 ≤ f
    · obtain ⟨l, ks, hn⟩ := h.ndAt hf h3
      obtain ⟨k0, k1, _⟩ := hn.kid (p l) (hn.cls hp)
      rw [show n = (n - 1) + 1 by omega, show m = (m - 1) + 1 by omega, hn.say, hn.say]
      exact ih _ _ _ (by omega) k0 (by omega) (by omega) (by omega)
    · rw [sayN_low n hf, sayN_low m hf]
theorem NdAt.says {l : Nat} {ks : List Int} (hn : NdAt S N f l ks) (h : Ok S M N) (hp : Pnt S p) (h2 : 2 ≤ f) (hf : f < (N.length : Int) + 2) : sayR N p f = sayR N p (ks.getD (p l) 0) := by
  obtain ⟨k0, k1, _⟩ := hn.kid (p l) (hn.cls hp)
  unfold sayR
  rw [show f.toNat = (f.toNat - 1) + 1 by omega, hn.say]
  exact sayN_eq h hp _ _ _ _ (Nat.le_refl _) k0 (by omega) (by omega) (Nat.le_refl _)
theorem sayR_low (h : ¬ 2 ≤ f) : sayR N p f = decide (f = 1) := sayN_low _ h
/-- A ref hangs on no level above its own. -/
theorem sayR_upd (h : Ok S M N) (hp : Pnt S p) {l c : Nat} (hc : (c : Int) < S.getD l 0) : ∀ (k : Nat) (f : Int), f.toNat ≤ k → 0 ≤ f → f < (N.length : Int) + 2 → (l : Int) < lvl S N f → sayR N (upd p l c) f = sayR N p f := by
  intro k
  induction k with
  | zero => intro f h1 h2 _ _; rw [sayR_low (by omega), sayR_low (by omega)]
  | succ k ih =>
    intro f h1 h2 h3 h4
    by_cases hf : 2 ≤ f
    · obtain ⟨l', ks, hn⟩ := h.ndAt hf h3
      have hl := hn.lev
      rw [hn.says h (hp.upd hc) hf h3, hn.says h hp hf h3, upd_ne p c (by omega)]
      obtain ⟨k0, k1, k2⟩ := hn.kid (p l') (hn.cls hp)
      exact ih _ (by omega) k0 (by omega) (by omega)
    · rw [sayR_low hf, sayR_low hf]
/-- What a node's kid says. -/
theorem NdAt.kid_says {l : Nat} {ks : List Int} (hn : NdAt S N f l ks) (h : Ok S M N) (hp : Pnt S p) (h2 : 2 ≤ f) (hf : f < (N.length : Int) + 2) {c : Nat} (hc : c < ks.length) : sayR N p (ks.getD c 0) = sayR N (upd p l c) f := by
  have hc' : (c : Int) < S.getD l 0 := by have := hn.len; omega
  obtain ⟨k0, k1, k2⟩ := hn.kid c hc
  rw [hn.says h (hp.upd hc') h2 hf, upd_at]
  exact (sayR_upd h hp hc' _ _ (Nat.le_refl _) k0 (by omega) k2).symm
theorem One.of_all {ks : List Int} {z : Int} (h0 : 0 < ks.length) (h : ∀ c, c < ks.length → ks.getD c 0 = z) : One ks := fun x hx => by
  obtain ⟨c, hc, rfl⟩ := List.getElem_of_mem hx
  have h1 := h c hc
  rw [List.getD_eq_getElem?_getD, List.getElem?_eq_getElem hc] at h1
  rw [h 0 h0]
  exact h1
theorem NdAt.pos {l : Nat} {ks : List Int} (hn : NdAt S N f l ks) (h : Ok S M N) : 0 < ks.length := by
  have := hn.cls (Pnt.zero h.sz)
  omega
/-- Where a node's level is above the other's, both can't say the same. -/
theorem can_above (h : Ok S M N) (h2 : 2 ≤ f) (hf : f < (N.length : Int) + 2) (g0 : 0 ≤ g) (hg : g < (N.length : Int) + 2) (hl : lvl S N f < lvl S N g) (hs : ∀ p, Pnt S p → sayR N p f = sayR N p g)
    (ih : ∀ f', 0 ≤ f' → f' < f → (∀ p, Pnt S p → sayR N p f' = sayR N p g) → f' = g) : False := by
  obtain ⟨l, ks, hn⟩ := h.ndAt h2 hf
  have hlev := hn.lev
  refine hn.one (One.of_all (z := g) (hn.pos h) (fun c hc => ?_))
  obtain ⟨k0, k1, k2⟩ := hn.kid c hc
  refine ih _ k0 k1 (fun p hp => ?_)
  have hc' : (c : Int) < S.getD l 0 := by have := hn.len; omega
  rw [hn.kid_says h hp h2 hf hc, hs _ (hp.upd hc')]
  exact sayR_upd h hp hc' _ _ (Nat.le_refl _) g0 hg (by omega)
theorem lvl_low (h : ¬ 2 ≤ f) : lvl S N f = (S.length : Int) := by
  unfold lvl
  rw [if_neg (fun h' => h h'.1)]
/-- THE STAGE'S THEOREM, of lists: the same function is the same ref. -/
theorem canon (h : Ok S M N) : ∀ (k : Nat) (f g : Int), f.toNat + g.toNat ≤ k → 0 ≤ f → f < (N.length : Int) + 2 → 0 ≤ g → g < (N.length : Int) + 2 → (∀ p, Pnt S p → sayR N p f = sayR N p g) → f = g := by
  intro k
  induction k with
  | zero => intro f g h1 f0 _ g0 _ _; omega
  | succ k ih =>
    intro f g h1 f0 hf g0 hg hs
    by_cases f2 : 2 ≤ f
    · by_cases g2 : 2 ≤ g
      · obtain ⟨l, ks, hn⟩ := h.ndAt f2 hf
        obtain ⟨l', ks', hn'⟩ := h.ndAt g2 hg
        have e1 := hn.lev
        have e2 := hn'.lev
        rcases Nat.lt_trichotomy l l' with hl | hl | hl
        · exact (can_above h f2 hf g0 hg (by omega) hs (fun f' a b c => ih f' g (by omega) a (by omega) g0 hg c)).elim
        · subst hl
          have hlen : ks.length = ks'.length := by have := hn.len; have := hn'.len; omega
          have hks : ks = ks' := by
            apply List.ext_getElem hlen
            intro c hc hc'
            have : ks.getD c 0 = ks'.getD c 0 := by
              obtain ⟨a0, a1, _⟩ := hn.kid c hc
              obtain ⟨b0, b1, _⟩ := hn'.kid c hc'
              refine ih _ _ (by omega) a0 (by omega) b0 (by omega) (fun p hp => ?_)
              have hcc : (c : Int) < S.getD l 0 := by have := hn.len; omega
              rw [hn.kid_says h hp f2 hf hc, hn'.kid_says h hp g2 hg hc', hs _ (hp.upd hcc)]
            rw [List.getD_eq_getElem?_getD, List.getD_eq_getElem?_getD, List.getElem?_eq_getElem hc, List.getElem?_eq_getElem hc'] at this
            exact this
          subst hks
          have := nodup_at h.nod hn.at_ hn'.at_
          omega
        · exact (can_above h g2 hg f0 hf (by omega) (fun p hp => (hs p hp).symm) (fun f' a b c => ih f' f (by omega) a (by omega) f0 hf c)).elim
      · obtain ⟨l, ks, hn⟩ := h.ndAt f2 hf
        have e1 := hn.lev
        have e2 : lvl S N g = (S.length : Int) := lvl_low g2
        have := hn.lt
        exact (can_above h f2 hf g0 hg (by omega) hs (fun f' a b c => ih f' g (by omega) a (by omega) g0 hg c)).elim
    · by_cases g2 : 2 ≤ g
      · obtain ⟨l, ks, hn⟩ := h.ndAt g2 hg
        have e1 := hn.lev
        have e2 : lvl S N f = (S.length : Int) := lvl_low f2
        have := hn.lt
        exact (can_above h g2 hg f0 hf (by omega) (fun p hp => (hs p hp).symm) (fun f' a b c => ih f' f (by omega) a (by omega) f0 hf c)).elim
      · have h3 := hs _ (Pnt.zero h.sz)
        rw [sayR_low f2, sayR_low g2] at h3
        have h4 : f = 1 ↔ g = 1 := by simpa using h3
        omega
theorem Ok.canon (h : Ok S M N) (hf : hasR N f) (hg : hasR N g) (hs : ∀ p, Pnt S p → sayR N p f = sayR N p g) : f = g := Go.Proofs.Ytaafeflbanoncaa.canon h _ f g (Nat.le_refl _) hf.1 hf.2 hg.1 hg.2 hs
end
end Go.Proofs.Ytaafeflbanoncaa
/-
  What Make answers says what its kids say, and what was there says what it said; in pure words. Of no program: no condition.
-/
namespace Go.Proofs.Ytaafeflbanoncaa
open Go.RowKit

section
variable {S : List Int} {M : Int} {N N' T : List Nd} {p : Nat → Nat} {f lv : Int} {ks : List Int}
theorem sayN_app (h : Ok S M N) (hp : Pnt S p) : ∀ (n : Nat) (f : Int), 0 ≤ f → f < (N.length : Int) + 2 → sayN (N ++ T) p n f = sayN N p n f := by
  intro n
  induction n with
  | zero => intro f _ _; rfl
  | succ n ih =>
    intro f h0 h1
    by_cases hf : 2 ≤ f
    · obtain ⟨l, ks, hn⟩ := h.ndAt hf h1
      have hk : (f - 2).toNat < N.length := by omega
      have e1 : (N ++ T).getD (f - 2).toNat (0, []) = ((l : Int), ks) := by
        rw [List.getD_eq_getElem?_getD, List.getElem?_append_left hk, hn.at_]
        rfl
      obtain ⟨k0, k1, _⟩ := hn.kid (p l) (hn.cls hp)
      rw [hn.say, sayN, if_pos hf, e1]
      simp only [Int.toNat_natCast]
      exact ih _ k0 (by omega)
    · rw [sayN_low _ hf, sayN_low _ hf]
theorem sayR_app (h : Ok S M N) (hp : Pnt S p) (hf : hasR N f) : sayR (N ++ T) p f = sayR N p f := sayN_app h hp _ f hf.1 hf.2
/-- What Make answers, where it answers a ref. -/
theorem MkP.says (h : Ok S M N) (hp : Pnt S p) (k : MkP S M N lv ks f 0 N') : hasR N' f ∧ sayR N' p f = sayR N p (ks.getD (p lv.toNat) 0) ∧ (∀ g, hasR N g → hasR N' g ∧ sayR N' p g = sayR N p g) := by
  have kid : May S N lv ks → p lv.toNat < ks.length ∧ ks.getD (p lv.toNat) 0 ∈ ks := fun m => by
    have h1 := m.ge
    have h2 := m.lt
    have h3 := m.len
    have h4 := hp lv.toNat (by omega)
    have h5 : p lv.toNat < ks.length := by omega
    refine ⟨h5, ?_⟩
    rw [List.getD_eq_getElem?_getD, List.getElem?_eq_getElem h5]
    exact List.getElem_mem _
  rcases k with ⟨_, _, h1, _⟩ | ⟨m, o, rfl, _, rfl⟩ | ⟨m, o, ⟨i, hi, rfl⟩, _, rfl⟩ | ⟨_, _, _, _, _, h1, _⟩ | ⟨m, o, hn, hl, rfl, _, rfl⟩
  · omega
  · obtain ⟨h1, h2⟩ := kid m
    have e1 := o _ h2
    have h3 : ks.getD 0 0 ∈ ks := by rw [← e1]; exact h2
    exact ⟨(m.kid _ h3).1, by rw [e1], fun g hg => ⟨hg, rfl⟩⟩
  · have hlt := at_lt hi
    have h2 : (2 : Int) ≤ (i : Int) + 2 := by omega
    have h3 : (i : Int) + 2 < (N'.length : Int) + 2 := by omega
    obtain ⟨l, ks', hd⟩ := h.ndAt h2 h3
    have e1 := hd.at_
    rw [show ((i : Int) + 2 - 2).toNat = i by omega, hi] at e1
    simp only [Option.some.injEq, Prod.mk.injEq] at e1
    obtain ⟨rfl, rfl⟩ := e1
    refine ⟨⟨by omega, h3⟩, ?_, fun g hg => ⟨hg, rfl⟩⟩
    rw [hd.says h hp h2 h3, Int.toNat_natCast]
  · omega
  · have h1 := h.add m o hn hl
    have h2 : (2 : Int) ≤ (N.length : Int) + 2 := by omega
    have h3 : (N.length : Int) + 2 < ((N ++ [(lv, ks)]).length : Int) + 2 := by rw [List.length_append, List.length_singleton]; omega
    obtain ⟨l, ks', hd⟩ := h1.ndAt h2 h3
    have e1 := hd.at_
    rw [show ((N.length : Int) + 2 - 2).toNat = N.length by omega, List.getElem?_append_right (Nat.le_refl _), Nat.sub_self] at e1
    simp only [List.getElem?_cons_zero, Option.some.injEq, Prod.mk.injEq] at e1
    obtain ⟨rfl, rfl⟩ := e1
    obtain ⟨h5, h6⟩ := kid m
    refine ⟨⟨by omega, h3⟩, ?_, fun g hg => ⟨⟨hg.1, ?_⟩, sayR_app h hp hg⟩⟩
    · rw [hd.says h1 hp h2 h3]
      rw [Int.toNat_natCast] at h6 ⊢
      exact sayR_app h hp (m.kid _ h6).1
    · have := hg.2
      rw [List.length_append, List.length_singleton]
      omega
end
end Go.Proofs.Ytaafeflbanoncaa
