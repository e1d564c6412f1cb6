/-
  An arena as a list of nodes, what Make tells of it, in pure words; keys of nodes. Of no program: no condition.
-/
import Derived.Below
namespace Go.Proofs.Ytaafeflbanoncaa
open Go.RowKit

abbrev Nd := Int × List Int
def lvl (S : List Int) (N : List Nd) (f : Int) : Int := if 2 ≤ f ∧ f < (N.length : Int) + 2 then (N.getD (f - 2).toNat (0, [])).1 else (S.length : Int)
def hasR (N : List Nd) (f : Int) : Prop := 0 ≤ f ∧ f < (N.length : Int) + 2
instance (N : List Nd) (f : Int) : Decidable (hasR N f) := inferInstanceAs (Decidable (_ ∧ _))
structure May (S : List Int) (N : List Nd) (lv : Int) (ks : List Int) : Prop where
  ge : 0 ≤ lv
  lt : lv < (S.length : Int)
  len : (ks.length : Int) = S.getD lv.toNat 0
  kid : ∀ f ∈ ks, hasR N f ∧ lv < lvl S N f
def One (ks : List Int) : Prop := ∀ f ∈ ks, f = ks.getD 0 0
/-- What Make tells. -/
def MkP (S : List Int) (M : Int) (N : List Nd) (lv : Int) (ks : List Int) (f e : Int) (N' : List Nd) : Prop :=
  (¬ May S N lv ks ∧ f = 0 ∧ e = 1 ∧ N' = N) ∨
  (May S N lv ks ∧ One ks ∧ f = ks.getD 0 0 ∧ e = 0 ∧ N' = N) ∨
  (May S N lv ks ∧ ¬ One ks ∧ (∃ i : Nat, N[i]? = some (lv, ks) ∧ f = (i : Int) + 2) ∧ e = 0 ∧ N' = N) ∨
  (May S N lv ks ∧ ¬ One ks ∧ (lv, ks) ∉ N ∧ M ≤ (N.length : Int) ∧ f = 0 ∧ e = 2 ∧ N' = N) ∨
  (May S N lv ks ∧ ¬ One ks ∧ (lv, ks) ∉ N ∧ (N.length : Int) < M ∧ f = (N.length : Int) + 2 ∧ e = 0 ∧ N' = N ++ [(lv, ks)])
/-- Sizes that may be. -/
structure SzOk (S : List Int) : Prop where
  ge : 1 ≤ S.length
  le : S.length ≤ 12
  each : ∀ s ∈ S, 1 ≤ s ∧ s ≤ 256
structure Ok (S : List Int) (M : Int) (N : List Nd) : Prop where
  sz : SzOk S
  m0 : 0 ≤ M
  m1 : M ≤ 8192
  few : (N.length : Int) ≤ M
  nod : N.Nodup
  each : ∀ i (h : i < N.length), May S (N.take i) (N[i]).1 (N[i]).2 ∧ ¬ One (N[i]).2
theorem lvl_take {S : List Int} {N : List Nd} {i : Nat} {f : Int} (h : hasR (N.take i) f) : lvl S (N.take i) f = lvl S N f := by
  unfold hasR at h
  rw [List.length_take] at h
  unfold lvl
  rw [List.length_take]
  by_cases h2 : 2 ≤ f
  · rw [if_pos ⟨h2, by omega⟩, if_pos ⟨h2, by omega⟩]
    simp only [List.getD_eq_getElem?_getD]
    rw [List.getElem?_take_of_lt (by omega)]
  · rw [if_neg (fun h => h2 h.1), if_neg (fun h => h2 h.1)]
theorem lvl_take_of {N : List Nd} {i : Nat} {f : Int} (h : hasR (N.take i) f) : hasR N f := by
  unfold hasR at *
  rw [List.length_take] at h
  omega
theorem May.up {S : List Int} {N : List Nd} {i : Nat} {lv : Int} {ks : List Int} (h : May S (N.take i) lv ks) : May S N lv ks :=
  ⟨h.ge, h.lt, h.len, fun f hf => ⟨lvl_take_of (h.kid f hf).1, by rw [← lvl_take (h.kid f hf).1]; exact (h.kid f hf).2⟩⟩
theorem Ok.may {S : List Int} {M : Int} {N : List Nd} (h : Ok S M N) {i : Nat} (hi : i < N.length) : May S N (N[i]).1 (N[i]).2 := (h.each i hi).1.up
theorem Ok.nil {S : List Int} {M : Int} (h : SzOk S) (h0 : 0 ≤ M) (h1 : M ≤ 8192) : Ok S M [] := ⟨h, h0, h1, by simpa using h0, List.nodup_nil, fun i h => by simp at h⟩
theorem Ok.take {S : List Int} {M : Int} {N : List Nd} (h : Ok S M N) (n : Nat) : Ok S M (N.take n) := by
  refine ⟨h.sz, h.m0, h.m1, by have := h.few; rw [List.length_take]; omega, h.nod.sublist (List.take_sublist _ _), fun i hi => ?_⟩
  rw [List.length_take] at hi
  rw [List.getElem_take, List.take_take, Nat.min_eq_left (by omega)]
  exact h.each i (by omega)
theorem Ok.add {S : List Int} {M : Int} {N : List Nd} (h : Ok S M N) {lv : Int} {ks : List Int} (h1 : May S N lv ks) (h2 : ¬ One ks) (h3 : (lv, ks) ∉ N) (h4 : (N.length : Int) < M) : Ok S M (N ++ [(lv, ks)]) := by
  refine ⟨h.sz, h.m0, h.m1, by rw [List.length_append, List.length_singleton]; omega, ?_, fun i hi => ?_⟩
  · rw [List.nodup_append]
    refine ⟨h.nod, List.nodup_cons.2 ⟨by simp, List.nodup_nil⟩, fun a ha b hb e => ?_⟩
    rw [List.mem_singleton.1 hb] at e
    subst e
    exact h3 ha
  · by_cases hn : i < N.length
    · rw [List.getElem_append_left hn, List.take_append_of_le_length (by omega)]
      exact h.each i hn
    · have : i = N.length := by rw [List.length_append, List.length_singleton] at hi; omega
      subst this
      rw [List.getElem_append_right (Nat.le_refl _), List.take_left']
      · simpa using ⟨h1, h2⟩
      · rfl
theorem MkP.ok {S : List Int} {M : Int} {N N' : List Nd} {lv f e : Int} {ks : List Int} (h : Ok S M N) (k : MkP S M N lv ks f e N') : Ok S M N' := by
  rcases k with ⟨_, _, _, rfl⟩ | ⟨_, _, _, _, rfl⟩ | ⟨_, _, _, _, rfl⟩ | ⟨_, _, _, _, _, _, rfl⟩ | ⟨h1, h2, h3, h4, _, _, rfl⟩
  · exact h
  · exact h
  · exact h
  · exact h
  · exact h.add h1 h2 h3 h4
theorem mem_of_at {N : List Nd} {i : Nat} {x : Nd} (h : N[i]? = some x) : x ∈ N := List.mem_of_getElem? h
theorem at_lt {N : List Nd} {i : Nat} {x : Nd} (h : N[i]? = some x) : i < N.length := by
  rcases Nat.lt_or_ge i N.length with h1 | h1
  · exact h1
  · rw [List.getElem?_eq_none h1] at h; cases h
theorem nodup_at {N : List Nd} (hn : N.Nodup) {i j : Nat} {x : Nd} (h1 : N[i]? = some x) (h2 : N[j]? = some x) : i = j := by
  have a := at_lt h1
  have b := at_lt h2
  rw [List.getElem?_eq_getElem a] at h1
  rw [List.getElem?_eq_getElem b] at h2
  have e : N[i] = N[j] := (Option.some.inj h1).trans (Option.some.inj h2).symm
  have hp := List.pairwise_iff_getElem.1 hn
  rcases Nat.lt_trichotomy i j with h | h | h
  · exact absurd e (hp i j a b h)
  · exact h
  · exact absurd e.symm (hp j i b a h)
/-- What is told is one thing. -/
theorem MkP.one {S : List Int} {M : Int} {N N1 N2 : List Nd} {lv f1 e1 f2 e2 : Int} {ks : List Int} (h : N.Nodup) (a : MkP S M N lv ks f1 e1 N1) (b : MkP S M N lv ks f2 e2 N2) : f1 = f2 ∧ e1 = e2 ∧ N1 = N2 := by
  rcases a with ⟨a0, rfl, rfl, rfl⟩ | ⟨a0, a1, rfl, rfl, rfl⟩ | ⟨a0, a1, ⟨i, a2, rfl⟩, rfl, rfl⟩ | ⟨a0, a1, a2, a3, rfl, rfl, rfl⟩ | ⟨a0, a1, a2, a3, rfl, rfl, rfl⟩ <;>
  rcases b with ⟨b0, rfl, rfl, rfl⟩ | ⟨b0, b1, rfl, rfl, rfl⟩ | ⟨b0, b1, ⟨j, b2, rfl⟩, rfl, rfl⟩ | ⟨b0, b1, b2, b3, rfl, rfl, rfl⟩ | ⟨b0, b1, b2, b3, rfl, rfl, rfl⟩ <;>
  first
  | exact ⟨rfl, rfl, rfl⟩
  | exact absurd b0 a0
  | exact absurd a0 b0
  | exact absurd b1 a1
  | exact absurd a1 b1
  | (exfalso; exact a2 (mem_of_at b2))
  | (exfalso; exact b2 (mem_of_at a2))
  | (exfalso; omega)
  | (have := nodup_at h a2 b2; subst this; exact ⟨rfl, rfl, rfl⟩)
/-- A node's key. -/
def keyB (lv : Int) (ks : List Int) : List UInt8 := UInt8.ofNat lv.toNat :: ks.flatMap fun f => [UInt8.ofNat (f.toNat / 256), UInt8.ofNat (f.toNat % 256)]
theorem u8_inj {a b : Nat} (ha : a < 256) (hb : b < 256) (h : UInt8.ofNat a = UInt8.ofNat b) : a = b := by
  have := congrArg UInt8.toNat h
  simp [UInt8.toNat_ofNat'] at this
  omega
theorem kids_inj : ∀ (a b : List Int), (∀ f ∈ a, 0 ≤ f ∧ f < 65536) → (∀ f ∈ b, 0 ≤ f ∧ f < 65536) → (a.flatMap fun f => [UInt8.ofNat (f.toNat / 256), UInt8.ofNat (f.toNat % 256)]) = (b.flatMap fun f => [UInt8.ofNat (f.toNat / 256), UInt8.ofNat (f.toNat % 256)]) → a = b
  | [], [], _, _, _ => rfl
  | [], _ :: _, _, _, h => by simp at h
  | _ :: _, [], _, _, h => by simp at h
  | x :: a, y :: b, ha, hb, h => by
    simp only [List.flatMap_cons, List.cons_append, List.nil_append, List.cons.injEq] at h
    obtain ⟨h1, h2, h3⟩ := h
    have hx := ha x (by simp)
    have hy := hb y (by simp)
    have e1 := u8_inj (by omega) (by omega) h1
    have e2 := u8_inj (by omega) (by omega) h2
    have e : x = y := by omega
    rw [e, kids_inj a b (fun f hf => ha f (by simp [hf])) (fun f hf => hb f (by simp [hf])) h3]
theorem keyB_inj {l1 l2 : Int} {a b : List Int} (h1 : 0 ≤ l1 ∧ l1 < 256) (h2 : 0 ≤ l2 ∧ l2 < 256) (ha : ∀ f ∈ a, 0 ≤ f ∧ f < 65536) (hb : ∀ f ∈ b, 0 ≤ f ∧ f < 65536) (h : keyB l1 a = keyB l2 b) : (l1, a) = (l2, b) := by
  unfold keyB at h
  simp only [List.cons.injEq] at h
  have e1 := u8_inj (by omega) (by omega) h.1
  have e2 := kids_inj a b ha hb h.2
  have : l1 = l2 := by omega
  rw [this, e2]
theorem keyB_length (lv : Int) (ks : List Int) : (keyB lv ks).length = 1 + 2 * ks.length := by
  unfold keyB
  rw [List.length_cons]
  have : (ks.flatMap fun f => [UInt8.ofNat (f.toNat / 256), UInt8.ofNat (f.toNat % 256)]).length = 2 * ks.length := by
    induction ks with
    | nil => rfl
    | cons x l ih => rw [List.flatMap_cons, List.length_append, ih, List.length_cons, List.length_cons]; simp; omega
  omega
theorem May.rng {S : List Int} {M : Int} {N N0 : List Nd} {lv : Int} {ks : List Int} (h : Ok S M N0) (hl : N.length ≤ 8192) (m : May S N lv ks) : (0 ≤ lv ∧ lv < 256) ∧ (∀ f ∈ ks, 0 ≤ f ∧ f < 65536) ∧ ks.length ≤ 256 ∧ 1 ≤ ks.length := by
  have h1 := m.ge
  have h2 := m.lt
  have h3 := h.sz.le
  have h4 := m.len
  refine ⟨⟨h1, by omega⟩, fun f hf => ?_, ?_⟩
  · have := (m.kid f hf).1
    unfold hasR at this
    omega
  · have hm : S.getD lv.toNat 0 ∈ S := by
      rw [List.getD_eq_getElem?_getD, List.getElem?_eq_getElem (by omega)]
      exact List.getElem_mem _
    have := h.sz.each _ hm
    omega
theorem Ok.key_inj {S : List Int} {M : Int} {N : List Nd} (h : Ok S M N) {l1 l2 : Int} {a b : List Int} (h1 : May S N l1 a) (h2 : May S N l2 b) (e : keyB l1 a = keyB l2 b) : (l1, a) = (l2, b) := by
  have hf := h.few
  have hm := h.m1
  obtain ⟨a1, a2, _⟩ := h1.rng h (by omega)
  obtain ⟨b1, b2, _⟩ := h2.rng h (by omega)
  exact keyB_inj a1 b1 a2 b2 e
end Go.Proofs.Ytaafeflbanoncaa
