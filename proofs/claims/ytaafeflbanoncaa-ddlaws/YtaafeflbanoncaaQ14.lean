/-
  What an operation of two refs comes to, in pure words: a ref that says of each point what is told, found class by class. Of no program: no condition.
-/
import Derived.Test.YtaafeflbanoncaaQ13
namespace Go.Proofs.Ytaafeflbanoncaa
open Go.RowKit

section
variable {S : List Int} {M : Int} {N N' T : List Nd} {p : Nat → Nat} {f g r lv : Int} {ks : List Int} {op : Bool → Bool → Bool} {q : (Nat → Nat) → (Nat → Nat)}
theorem hasR_app (h : hasR N f) : hasR (N ++ T) f := ⟨h.1, by have := h.2; rw [List.length_append]; omega⟩
theorem lvl_app (h : hasR N f) : lvl S (N ++ T) f = lvl S N f := by
  have e := lvl_take (S := S) (N := N ++ T) (i := N.length) (f := f) (by rw [List.take_left' rfl]; exact h)
  rw [List.take_left' rfl] at e
  exact e.symm
theorem lvl_at {i : Nat} (hi : N[i]? = some (lv, ks)) : lvl S N ((i : Int) + 2) = lv := by
  have hlt := at_lt hi
  unfold lvl
  rw [if_pos (by omega), List.getD_eq_getElem?_getD, show ((i : Int) + 2 - 2).toNat = i by omega, hi]
  rfl
theorem Ok.lvl_le (h : Ok S M N) (hf : hasR N f) : 0 ≤ lvl S N f ∧ lvl S N f ≤ (S.length : Int) := by
  by_cases h2 : 2 ≤ f
  · obtain ⟨l, ks, hn⟩ := h.ndAt h2 hf.2
    have := hn.lev
    have := hn.lt
    omega
  · rw [lvl_low h2]; omega
/-- A ref's level is at most the number of levels; a node's is below it. -/
theorem Ok.node_of_lvl (h : Ok S M N) (hf : hasR N f) {l : Nat} (hl : lvl S N f = (l : Int)) (hs : l < S.length) : 2 ≤ f ∧ ∃ ks, NdAt S N f l ks := by
  by_cases h2 : 2 ≤ f
  · obtain ⟨l', ks, hn⟩ := h.ndAt h2 hf.2
    have := hn.lev
    have e : l' = l := by omega
    subst e
    exact ⟨h2, ks, hn⟩
  · rw [lvl_low h2] at hl; omega
/-- Where a ref leads by a class of a level: itself, if it does not ask that level. -/
def kidR (S : List Int) (N : List Nd) (l : Nat) (f : Int) (c : Nat) : Int := if lvl S N f = (l : Int) then (N.getD (f - 2).toNat (0, [])).2.getD c 0 else f
theorem kidR_node {l c : Nat} (hn : NdAt S N f l ks) : kidR S N l f c = ks.getD c 0 := by
  unfold kidR
  have e : N.getD (f - 2).toNat (0, []) = ((l : Int), ks) := by rw [List.getD_eq_getElem?_getD, hn.at_]; rfl
  rw [if_pos hn.lev, e]
theorem kidR_self {l c : Nat} (hl : lvl S N f ≠ (l : Int)) : kidR S N l f c = f := by unfold kidR; rw [if_neg hl]
theorem kidR_app {l c : Nat} (h : Ok S M N) (hs : l < S.length) (hf : hasR N f) : kidR S (N ++ T) l f c = kidR S N l f c := by
  unfold kidR
  rw [lvl_app hf]
  by_cases hl : lvl S N f = (l : Int)
  · obtain ⟨h2, ks, hn⟩ := h.node_of_lvl hf hl hs
    rw [if_pos hl, if_pos hl]
    have hk : (f - 2).toNat < N.length := by have := hf.2; omega
    simp only [List.getD_eq_getElem?_getD]
    rw [List.getElem?_append_left hk]
  · rw [if_neg hl, if_neg hl]
theorem kidR_has {l c : Nat} (h : Ok S M N) (hs : l < S.length) (hf : hasR N f) (hl : (l : Int) ≤ lvl S N f) (hc : (c : Int) < S.getD l 0) : hasR N (kidR S N l f c) ∧ (l : Int) < lvl S N (kidR S N l f c) := by
  by_cases e : lvl S N f = (l : Int)
  · obtain ⟨h2, ks, hn⟩ := h.node_of_lvl hf e hs
    rw [kidR_node hn]
    have hl2 := hn.len
    obtain ⟨k0, k1, k2⟩ := hn.kid c (by omega)
    exact ⟨⟨k0, by have := hf.2; omega⟩, k2⟩
  · rw [kidR_self e]
    exact ⟨hf, by omega⟩
theorem kidR_say {l : Nat} (h : Ok S M N) (hs : l < S.length) (hf : hasR N f) (hp : Pnt S p) : sayR N p f = sayR N p (kidR S N l f (p l)) := by
  by_cases e : lvl S N f = (l : Int)
  · obtain ⟨h2, ks, hn⟩ := h.node_of_lvl hf e hs
    rw [kidR_node hn]
    exact hn.says h hp h2 hf.2
  · rw [kidR_self e]
theorem kidR_zero {l c : Nat} (hs : l < S.length) : kidR S N l 0 c = 0 := kidR_self (by rw [lvl_low (by omega)]; omega)
/-- What two refs come to: what is told of each point; no level above both. -/
structure PtOk (S : List Int) (N : List Nd) (op : Bool → Bool → Bool) (q : (Nat → Nat) → (Nat → Nat)) (f g r : Int) : Prop where
  has : hasR N r
  say : ∀ p, Pnt S p → sayR N p r = op (sayR N (q p) f) (sayR N (q p) g)
  lev : min (lvl S N f) (lvl S N g) ≤ lvl S N r
theorem PtOk.app (h : Ok S M N) (hq : ∀ p, Pnt S p → Pnt S (q p)) (hf : hasR N f) (hg : hasR N g) (k : PtOk S N op q f g r) : PtOk S (N ++ T) op q f g r :=
  ⟨hasR_app k.has, fun p hp => by rw [sayR_app h hp k.has, sayR_app h (hq p hp) hf, sayR_app h (hq p hp) hg]; exact k.say p hp, by rw [lvl_app hf, lvl_app hg, lvl_app k.has]; exact k.lev⟩
/-- The results by class may stand as a node. -/
theorem PtOk.may {l : Nat} (h : Ok S M N) (hs : l < S.length) (hf : hasR N f) (hg : hasR N g) (hm : min (lvl S N f) (lvl S N g) = (l : Int)) (hlen : (ks.length : Int) = S.getD l 0) (hk : ∀ c, c < ks.length → PtOk S N op q (kidR S N l f c) (kidR S N l g c) (ks.getD c 0)) : May S N (l : Int) ks := by
  refine ⟨by omega, by omega, by rw [Int.toNat_natCast]; exact hlen, fun x hx => ?_⟩
  obtain ⟨c, hc, rfl⟩ := List.getElem_of_mem hx
  have e : ks.getD c 0 = ks[c] := by rw [List.getD_eq_getElem?_getD, List.getElem?_eq_getElem hc]; rfl
  have k := hk c hc
  rw [e] at k
  have h1 := (kidR_has (c := c) h hs hf (by omega) (by omega)).2
  have h2 := (kidR_has (c := c) h hs hg (by omega) (by omega)).2
  have h3 := k.lev
  exact ⟨k.has, by omega⟩
/-- The node that is made of them is what both come to. -/
theorem PtOk.node {l : Nat} (h : Ok S M N) (hq : ∀ p, Pnt S p → Pnt S (q p)) (hs : l < S.length) (hf : hasR N f) (hg : hasR N g) (hm : min (lvl S N f) (lvl S N g) = (l : Int)) (hql : ∀ p, q p l = p l) (hlen : (ks.length : Int) = S.getD l 0) (hk : ∀ c, c < ks.length → PtOk S N op q (kidR S N l f c) (kidR S N l g c) (ks.getD c 0))
    (k : MkP S M N (l : Int) ks r 0 N') : PtOk S N' op q f g r ∧ ∃ T, N' = N ++ T := by
  have hT : ∃ T, N' = N ++ T := by
    rcases k with ⟨_, _, h1, _⟩ | ⟨_, _, _, _, rfl⟩ | ⟨_, _, _, _, rfl⟩ | ⟨_, _, _, _, _, h1, _⟩ | ⟨_, _, _, _, _, _, rfl⟩
    · omega
    · exact ⟨[], by simp⟩
    · exact ⟨[], by simp⟩
    · omega
    · exact ⟨_, rfl⟩
  refine ⟨⟨?_, fun p hp => ?_, ?_⟩, hT⟩
  · exact (MkP.says h (Pnt.zero h.sz) k).1
  · obtain ⟨_, e, _⟩ := MkP.says h hp k
    rw [e, Int.toNat_natCast]
    have hc : p l < ks.length := by have := hp l hs; omega
    rw [(hk _ hc).say p hp]
    obtain ⟨T, rfl⟩ := hT
    rw [sayR_app h (hq p hp) hf, sayR_app h (hq p hp) hg, kidR_say h hs hf (hq p hp), kidR_say h hs hg (hq p hp), hql p]
  · have hmay := PtOk.may h hs hf hg hm hlen hk
    have hpos : 0 < ks.length := by
      have h1 := Pnt.zero h.sz l hs
      omega
    rcases k with ⟨_, _, h1, _⟩ | ⟨m, o, rfl, _, rfl⟩ | ⟨m, o, ⟨i, hi, rfl⟩, _, rfl⟩ | ⟨_, _, _, _, _, h1, _⟩ | ⟨m, o, hn, hl, rfl, _, rfl⟩
    · omega
    · have hmem : ks.getD 0 0 ∈ ks := by
        rw [List.getD_eq_getElem?_getD, List.getElem?_eq_getElem hpos]
        exact List.getElem_mem _
      have := (m.kid _ hmem).2
      omega
    · rw [hm, lvl_at hi]
      exact Int.le_refl _
    · omega
    · rw [lvl_app hf, lvl_app hg, hm, lvl_at (lv := (l : Int)) (ks := ks) (i := N.length) (by simp)]
      exact Int.le_refl _
/-- What is known of two refs without a look at their kids. -/
structure KnP (S : List Int) (N : List Nd) (op : Bool → Bool → Bool) (q : (Nat → Nat) → (Nat → Nat)) (f g r : Int) (is : Bool) : Prop where
  yes : is = true → PtOk S N op q f g r
  no : is = false → min (lvl S N f) (lvl S N g) < (S.length : Int) ∧ ∀ p, q p (min (lvl S N f) (lvl S N g)).toNat = p (min (lvl S N f) (lvl S N g)).toNat
end
end Go.Proofs.Ytaafeflbanoncaa
