/-
  Numbers, addresses and prefixes as lists of bytes: reading and printing, in one another's words. No condition.
-/
import Derived.Lib.ItoaMem
import Derived.Lib.Bytealg
import Derived.Lib.IndexLaws
import Derived.Test.YtlmhofjiobmodaaGreatDoorQ30
namespace Go.Proofs.YtlmhofjiobmodaaGreatDoor
open Go.Lib

/-- The digits' rest: what a number comes to, if it never comes above most. -/
def rnGo (most : Nat) : List UInt8 → Nat → Option Nat
  | [], n => some n
  | c :: t, n => if c < 48 ∨ 57 < c then none else if most < n * 10 + (c.toNat - 48) then none else rnGo most t (n * 10 + (c.toNat - 48))
/-- A number from 0 to most in decimal, without a 0 ahead. -/
def rn (l : List UInt8) (most : Nat) : Option Nat :=
  if l = [] ∨ (1 < l.length ∧ l.getD 0 0 = 48) then none else rnGo most l 0

def isDig (c : UInt8) : Prop := 48 ≤ c ∧ c ≤ 57
instance (c : UInt8) : Decidable (isDig c) := inferInstanceAs (Decidable (48 ≤ c ∧ c ≤ 57))
/-- Digits' value. -/
def valL : List UInt8 → Nat → Nat
  | [], n => n
  | c :: t, n => valL t (n * 10 + (c.toNat - 48))
theorem valL_ge : ∀ (l : List UInt8) (n : Nat), n ≤ valL l n
  | [], _ => Nat.le_refl _
  | c :: t, n => Nat.le_trans (by omega) (valL_ge t _)
theorem rnGo_some {most : Nat} : ∀ {l : List UInt8} {n m : Nat}, rnGo most l n = some m → (∀ c ∈ l, isDig c) ∧ valL l n = m ∧ (n ≤ most → m ≤ most)
  | [], n, m, h => by
    simp only [rnGo, Option.some.injEq] at h
    exact ⟨by simp, h, fun hn => h ▸ hn⟩
  | c :: t, n, m, h => by
    simp only [rnGo] at h
    split at h
    · cases h
    · split at h
      · cases h
      · rename_i h1 h2
        obtain ⟨a, b, d⟩ := rnGo_some h
        refine ⟨fun x hx => ?_, b, fun _ => d (by omega)⟩
        rcases List.mem_cons.1 hx with rfl | hx
        · rw [not_or, UInt8.not_lt, UInt8.not_lt] at h1
          exact h1
        · exact a x hx
theorem rnGo_of {most : Nat} : ∀ {l : List UInt8} {n : Nat}, (∀ c ∈ l, isDig c) → valL l n ≤ most → rnGo most l n = some (valL l n)
  | [], _, _, _ => rfl
  | c :: t, n, h, hm => by
    have hc := h c (by simp)
    have h1 : ¬ (c < 48 ∨ 57 < c) := by rw [not_or, UInt8.not_lt, UInt8.not_lt]; exact hc
    have h2 : ¬ (most < n * 10 + (c.toNat - 48)) := by have := valL_ge t (n * 10 + (c.toNat - 48)); simp only [valL] at hm; omega
    simp only [rnGo, if_neg h1, if_neg h2, valL]
    exact rnGo_of (fun x hx => h x (by simp [hx])) hm
theorem rnGo_none {most : Nat} {l : List UInt8} {n : Nat} (h : ¬ ((∀ c ∈ l, isDig c) ∧ valL l n ≤ most)) (hn : n ≤ most) : rnGo most l n = none := by
  cases e : rnGo most l n with
  | none => rfl
  | some m =>
    obtain ⟨a, b, c⟩ := rnGo_some e
    exact absurd ⟨a, by have := c hn; omega⟩ h

/-- A number is just its digits. -/
theorem valL_append : ∀ (l : List UInt8) (c : UInt8) (n : Nat), valL (l ++ [c]) n = valL l n * 10 + (c.toNat - 48)
  | [], _, _ => rfl
  | x :: l, c, n => by simp only [List.cons_append, valL, valL_append l c]
theorem dec_step (u : Nat) (h : ¬ u < 10) : decDigits u = decDigits (u / 10) ++ [UInt8.ofNat (48 + u % 10)] := by rw [decDigits, dif_neg h]
theorem dec_spec (u : Nat) : (∀ c ∈ decDigits u, isDig c) ∧ valL (decDigits u) 0 = u ∧ decDigits u ≠ [] ∧ (10 ≤ u → (decDigits u).getD 0 0 ≠ 48) := by
  induction u using Nat.strongRecOn with
  | ind u ih =>
    have hdig : ∀ k, k < 10 → isDig (UInt8.ofNat (48 + k)) ∧ (UInt8.ofNat (48 + k)).toNat - 48 = k := by decide
    by_cases h : u < 10
    · rw [decDigits_one h]
      refine ⟨?_, ?_, by simp, fun h' => by omega⟩
      · intro c hc; rw [List.mem_singleton.1 hc]; exact (hdig u h).1
      · simp only [valL]; rw [(hdig u h).2]; omega
    · obtain ⟨i1, i2, i3, i4⟩ := ih (u / 10) (by omega)
      rw [dec_step u h]
      have hd := hdig (u % 10) (by omega)
      refine ⟨?_, ?_, by simp, fun _ => ?_⟩
      · intro c hc
        rcases List.mem_append.1 hc with hc | hc
        · exact i1 c hc
        · rw [List.mem_singleton.1 hc]; exact hd.1
      · rw [valL_append, i2, hd.2]; omega
      · by_cases h2 : u / 10 < 10
        · rw [decDigits_one h2]
          have hne : ∀ k, k < 10 → 0 < k → UInt8.ofNat (48 + k) ≠ 48 := by decide
          simpa using hne (u / 10) h2 (by omega)
        · have := i4 (by omega)
          cases e : decDigits (u / 10) with
          | nil => exact absurd e i3
          | cons x t => rw [e] at this; simpa using this
/-- Digits without a 0 ahead are a number's own. -/
theorem dec_of (l : List UInt8) (hl : l ≠ []) (hd : ∀ c ∈ l, isDig c) (h0 : 1 < l.length → l.getD 0 0 ≠ 48) : decDigits (valL l 0) = l := by
  induction hn : l.length using Nat.strongRecOn generalizing l with
  | ind n ih =>
    have hdig : ∀ c : UInt8, isDig c → c.toNat - 48 < 10 ∧ UInt8.ofNat (48 + (c.toNat - 48)) = c := by
      intro c hc
      have h1 : 48 ≤ c.toNat := UInt8.le_iff_toNat_le.1 hc.1
      have h2 : c.toNat ≤ 57 := UInt8.le_iff_toNat_le.1 hc.2
      refine ⟨by omega, ?_⟩
      rw [show 48 + (c.toNat - 48) = c.toNat by omega]
      exact UInt8.ofNat_toNat
    obtain ⟨t, c, rfl⟩ : ∃ t c, l = t ++ [c] := ⟨l.dropLast, l.getLast hl, (List.dropLast_concat_getLast hl).symm⟩
    have hc := hdig c (hd c (by simp))
    rw [valL_append]
    by_cases ht : t = []
    · subst ht
      simp only [valL, Nat.zero_mul, Nat.zero_add, List.nil_append]
      rw [decDigits_one hc.1, hc.2]
    · have hpos : 0 < t.length := List.length_pos_iff.2 ht
      have hg : t.getD 0 0 ≠ 48 := by
        have := h0 (by simp; omega)
        rw [List.getD_eq_getElem?_getD, List.getElem?_append_left hpos, ← List.getD_eq_getElem?_getD] at this
        exact this
      have hi := ih t.length (by simp at hn; omega) t ht (fun x hx => hd x (by simp [hx])) (fun _ => hg) rfl
      have hv : 0 < valL t 0 := by
        cases t with
        | nil => exact absurd rfl ht
        | cons x t =>
          simp only [valL]
          refine Nat.lt_of_lt_of_le ?_ (valL_ge t _)
          have hx := hd x (by simp)
          have h1 : 48 ≤ x.toNat := UInt8.le_iff_toNat_le.1 hx.1
          have hne : x.toNat ≠ 48 := fun e => hg (by simp; exact UInt8.toNat_inj.1 (by simpa using e))
          omega
      rw [dec_step _ (by omega)]
      rw [show (valL t 0 * 10 + (c.toNat - 48)) / 10 = valL t 0 by omega, show (valL t 0 * 10 + (c.toNat - 48)) % 10 = c.toNat - 48 by omega, hi, hc.2]
theorem rn_dec (n most : Nat) (h : n ≤ most) : rn (decDigits n) most = some n := by
  obtain ⟨h1, h2, h3, h4⟩ := dec_spec n
  unfold rn
  rw [if_neg, rnGo_of h1 (by omega), h2]
  rintro (h | ⟨a, b⟩)
  · exact h3 h
  · by_cases h10 : 10 ≤ n
    · exact h4 h10 b
    · rw [decDigits_one (by omega)] at a; simp at a
theorem rn_some {l : List UInt8} {n most : Nat} (h : rn l most = some n) : l = decDigits n ∧ n ≤ most := by
  unfold rn at h
  split at h
  · cases h
  · rename_i hc
    rw [not_or] at hc
    obtain ⟨a, b, c⟩ := rnGo_some h
    refine ⟨?_, c (Nat.zero_le _)⟩
    rw [← b]
    exact (dec_of l hc.1 a (fun h1 h2 => hc.2 ⟨h1, h2⟩)).symm

/-- A list at the first place of a byte. -/
def cutL (c : UInt8) : List UInt8 → Option (List UInt8 × List UInt8)
  | [] => none
  | x :: t => if x = c then some ([], t) else (cutL c t).map fun p => (x :: p.1, p.2)
theorem cutL_some {c : UInt8} : ∀ {l a b : List UInt8}, cutL c l = some (a, b) → l = a ++ c :: b ∧ c ∉ a
  | [], _, _, h => by cases h
  | x :: t, a, b, h => by
    simp only [cutL] at h
    split at h
    · rename_i e
      simp only [Option.some.injEq, Prod.mk.injEq] at h
      rw [← h.1, ← h.2, e]
      exact ⟨rfl, by simp⟩
    · rename_i e
      cases h2 : cutL c t with
      | none => rw [h2] at h; cases h
      | some p =>
        obtain ⟨p1, p2⟩ := p
        rw [h2] at h
        simp only [Option.map_some, Option.some.injEq, Prod.mk.injEq] at h
        obtain ⟨i1, i2⟩ := cutL_some h2
        rw [← h.1, ← h.2, i1]
        exact ⟨rfl, by simp; exact ⟨fun e' => e e'.symm, i2⟩⟩
theorem cutL_of {c : UInt8} : ∀ {a : List UInt8} (b : List UInt8), c ∉ a → cutL c (a ++ c :: b) = some (a, b)
  | [], b, _ => by simp [cutL]
  | x :: a, b, h => by
    have h1 : x ≠ c := fun e => h (by simp [e])
    have h2 : c ∉ a := fun e => h (List.mem_cons_of_mem _ e)
    simp only [List.cons_append, cutL, if_neg h1, cutL_of b h2, Option.map_some]
theorem cutL_none {c : UInt8} : ∀ {l : List UInt8}, cutL c l = none ↔ c ∉ l
  | [] => by simp [cutL]
  | x :: t => by
    simp only [cutL]
    split
    · rename_i e; simp [e]
    · rename_i e
      rw [Option.map_eq_none_iff, cutL_none]
      simp
      exact fun _ e' => e e'.symm

/-- An address's text. -/
def addrL (l : List UInt8) : Option Nat :=
  (cutL 46 l).bind fun p => (cutL 46 p.2).bind fun q => (cutL 46 q.2).bind fun r =>
    (rn p.1 255).bind fun a => (rn q.1 255).bind fun b => (rn r.1 255).bind fun c => (rn r.2 255).bind fun d => some (W4 a b c d)
/-- A prefix's text, or an address's. -/
def pfxL (l : List UInt8) : Option (Nat × Nat) :=
  match cutL 47 l with
  | none => (addrL l).map fun n => (n, 32)
  | some p => (addrL p.1).bind fun n => (rn p.2 32).bind fun k => if n % 2 ^ (32 - k) = 0 then some (n, k) else none
end Go.Proofs.YtlmhofjiobmodaaGreatDoor
