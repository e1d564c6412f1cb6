/-
  What Make answers says what its kids say, and what was there says what it said; in pure words. Of no program: no condition.
-/
import Derived.Test.YtaafeflbanoncaaMCan
namespace Go.Proofs.Ytaafeflbanoncaa
open Go.RowKit

section
variable {S : List Int} {M : Int} {N N' T : List Nd} {p : Nat → Nat} {f lv : Int} {ks : List Int}
theorem sayN_app (h : Ok S M N) (hp : Pnt S p) : ∀ (n : Nat) (f : Int), 0 ≤ f → f < (N.length : Int) + 2 → sayN (N ++ T) p n f = sayN N p n f := by
  intro n
  induction n with
  | zero => intro f _ _; rfl
  | succ n ih =>
    intro f h0 h1
    by_cases hf : 2 ≤ f
    · obtain ⟨l, ks, hn⟩ := h.ndAt hf h1
      have hk : (f - 2).toNat < N.length := by omega
      have e1 : (N ++ T).getD (f - 2).toNat (0, []) = ((l : Int), ks) := by
        rw [List.getD_eq_getElem?_getD, List.getElem?_append_left hk, hn.at_]
        rfl
      obtain ⟨k0, k1, _⟩ := hn.kid (p l) (hn.cls hp)
      rw [hn.say, sayN, if_pos hf, e1]
      simp only [Int.toNat_natCast]
      exact ih _ k0 (by omega)
    · rw [sayN_low _ hf, sayN_low _ hf]
theorem sayR_app (h : Ok S M N) (hp : Pnt S p) (hf : hasR N f) : sayR (N ++ T) p f = sayR N p f := sayN_app h hp _ f hf.1 hf.2
/-- What Make answers, where it answers a ref. -/
theorem MkP.says (h : Ok S M N) (hp : Pnt S p) (k : MkP S M N lv ks f 0 N') : hasR N' f ∧ sayR N' p f = sayR N p (ks.getD (p lv.toNat) 0) ∧ (∀ g, hasR N g → hasR N' g ∧ sayR N' p g = sayR N p g) := by
  have kid : May S N lv ks → p lv.toNat < ks.length ∧ ks.getD (p lv.toNat) 0 ∈ ks := fun m => by
    have h1 := m.ge
    have h2 := m.lt
    have h3 := m.len
    have h4 := hp lv.toNat (by omega)
    have h5 : p lv.toNat < ks.length := by omega
    refine ⟨h5, ?_⟩
    rw [List.getD_eq_getElem?_getD, List.getElem?_eq_getElem h5]
    exact List.getElem_mem _
  rcases k with ⟨_, _, h1, _⟩ | ⟨m, o, rfl, _, rfl⟩ | ⟨m, o, ⟨i, hi, rfl⟩, _, rfl⟩ | ⟨_, _, _, _, _, h1, _⟩ | ⟨m, o, hn, hl, rfl, _, rfl⟩
  · omega
  · obtain ⟨h1, h2⟩ := kid m
    have e1 := o _ h2
    have h3 : ks.getD 0 0 ∈ ks := by rw [← e1]; exact h2
    exact ⟨(m.kid _ h3).1, by rw [e1], fun g hg => ⟨hg, rfl⟩⟩
  · have hlt := at_lt hi
    have h2 : (2 : Int) ≤ (i : Int) + 2 := by omega
    have h3 : (i : Int) + 2 < (N'.length : Int) + 2 := by omega
    obtain ⟨l, ks', hd⟩ := h.ndAt h2 h3
    have e1 := hd.at_
    rw [show ((i : Int) + 2 - 2).toNat = i by omega, hi] at e1
    simp only [Option.some.injEq, Prod.mk.injEq] at e1
    obtain ⟨rfl, rfl⟩ := e1
    refine ⟨⟨by omega, h3⟩, ?_, fun g hg => ⟨hg, rfl⟩⟩
    rw [hd.says h hp h2 h3, Int.toNat_natCast]
  · omega
  · have h1 := h.add m o hn hl
    have h2 : (2 : Int) ≤ (N.length : Int) + 2 := by omega
    have h3 : (N.length : Int) + 2 < ((N ++ [(lv, ks)]).length : Int) + 2 := by rw [List.length_append, List.length_singleton]; omega
    obtain ⟨l, ks', hd⟩ := h1.ndAt h2 h3
    have e1 := hd.at_
    rw [show ((N.length : Int) + 2 - 2).toNat = N.length by omega, List.getElem?_append_right (Nat.le_refl _), Nat.sub_self] at e1
    simp only [List.getElem?_cons_zero, Option.some.injEq, Prod.mk.injEq] at e1
    obtain ⟨rfl, rfl⟩ := e1
    obtain ⟨h5, h6⟩ := kid m
    refine ⟨⟨by omega, h3⟩, ?_, fun g hg => ⟨⟨hg.1, ?_⟩, sayR_app h hp hg⟩⟩
    · rw [hd.says h1 hp h2 h3]
      rw [Int.toNat_natCast] at h6 ⊢
      exact sayR_app h hp (m.kid _ h6).1
    · have := hg.2
      rw [List.length_append, List.length_singleton]
      omega
end
end Go.Proofs.Ytaafeflbanoncaa
