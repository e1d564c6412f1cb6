/-
  All points of few classes, one by one, and what a ref says of them; in pure words. Of no program: no condition.
-/
import Derived.Test.YtaafeflbanoncaaMInt
import Derived.Test.YtaafeflbanoncaaEvl
namespace Go.Proofs.Ytaafeflbanoncaa
open Go.RowKit

/-- The n-th point. -/
def pnL : List Int → Nat → List Int
  | [], _ => []
  | s :: t, n => ((n % s.toNat : Nat) : Int) :: pnL t (n / s.toNat)
/-- How many there are. -/
def prd : List Int → Nat
  | [] => 1
  | s :: t => s.toNat * prd t
/-- Which one a point is. -/
def idx : List Int → List Int → Nat
  | s :: t, x :: p => x.toNat + s.toNat * idx t p
  | _, _ => 0
theorem pnL_length : ∀ (S : List Int) (n : Nat), (pnL S n).length = S.length
  | [], _ => rfl
  | s :: t, n => by simp [pnL, pnL_length t]
theorem ptl_cons {s x : Int} {t p : List Int} (h0 : 0 ≤ x) (h1 : x < s) (h : PtL t p) : PtL (s :: t) (x :: p) := ⟨by simp [h.len], fun i hi => by
  cases i with
  | zero => exact ⟨h0, h1⟩
  | succ i => exact h.each i (by simpa using hi)⟩
theorem ptl_tail {s x : Int} {t p : List Int} (h : PtL (s :: t) (x :: p)) : (0 ≤ x ∧ x < s) ∧ PtL t p := ⟨h.each 0 (by simp), ⟨by have := h.len; simpa using this, fun i hi => h.each (i + 1) (by simpa using hi)⟩⟩
theorem pnL_ptl : ∀ (S : List Int), (∀ s ∈ S, 1 ≤ s) → ∀ n, PtL S (pnL S n)
  | [], _, _ => ⟨rfl, fun i hi => by cases hi⟩
  | s :: t, h, n => by
    have hs := h s (by simp)
    have hm := Nat.mod_lt n (show 0 < s.toNat by omega)
    exact ptl_cons (by omega) (by omega) (pnL_ptl t (fun x hx => h x (by simp [hx])) _)
theorem idx_pnL : ∀ (S : List Int), (∀ s ∈ S, 1 ≤ s) → ∀ n, n < prd S → idx S (pnL S n) = n
  | [], _, n, h => by simp [prd] at h; simp [idx, h]
  | s :: t, h, n, hn => by
    have hs := h s (by simp)
    unfold pnL idx
    unfold prd at hn
    rw [idx_pnL t (fun x hx => h x (by simp [hx])) (n / s.toNat) (by
      rw [Nat.div_lt_iff_lt_mul (by omega), Nat.mul_comm]; exact hn), Int.toNat_natCast]
    exact Nat.mod_add_div n s.toNat
theorem idx_lt : ∀ (S L : List Int), PtL S L → idx S L < prd S
  | [], [], _ => by simp [idx, prd]
  | [], _ :: _, h => by have := h.len; simp at this
  | _ :: _, [], h => by have := h.len; simp at this
  | s :: t, x :: p, h => by
    obtain ⟨⟨h0, h1⟩, h2⟩ := ptl_tail h
    have := idx_lt t p h2
    unfold idx prd
    have h3 : s.toNat * (idx t p + 1) ≤ s.toNat * prd t := Nat.mul_le_mul_left _ this
    rw [Nat.mul_add, Nat.mul_one] at h3
    omega
theorem pnL_idx : ∀ (S L : List Int), PtL S L → pnL S (idx S L) = L
  | [], [], _ => rfl
  | [], _ :: _, h => by have := h.len; simp at this
  | _ :: _, [], h => by have := h.len; simp at this
  | s :: t, x :: p, h => by
    obtain ⟨⟨h0, h1⟩, h2⟩ := ptl_tail h
    unfold idx pnL
    rw [Nat.add_mul_mod_self_left, Nat.mod_eq_of_lt (by omega), Nat.add_mul_div_left _ _ (by omega), Nat.div_eq_of_lt (by omega), Nat.zero_add, pnL_idx t p h2]
    congr 1
    omega
section
variable {S : List Int} {M : Int} {N T : List Nd} {f g r : Int} {φ : Phi}
def rowP (S : List Int) (φ : Phi) : List Bool := (List.range (prd S)).map fun n => φ (ptf (pnL S n))
def rowR (S : List Int) (N : List Nd) (f : Int) : List Bool := rowP S (fun p => sayR N p f)
theorem rowP_length : (rowP S φ).length = prd S := by simp [rowP]
theorem rowP_get {n : Nat} (h : n < prd S) : (rowP S φ).getD n false = φ (ptf (pnL S n)) := by
  rw [List.getD_eq_getElem?_getD, List.getElem?_eq_getElem (by rw [rowP_length]; exact h)]
  simp [rowP]
theorem SzOk.pos (h : SzOk S) : ∀ s ∈ S, 1 ≤ s := fun s hs => (h.each s hs).1
theorem rowR_rep (h : SzOk S) (a : Rep S N φ r) : rowR S N r = rowP S φ := by
  unfold rowR rowP
  apply List.map_congr_left
  intro n _
  exact a.2 _ (pnL_ptl S h.pos n).pnt
theorem rowR_app (h : Ok S M N) (hf : hasR N f) : rowR S (N ++ T) f = rowR S N f := by
  unfold rowR rowP
  apply List.map_congr_left
  intro n _
  exact sayR_app h (pnL_ptl S h.sz.pos n).pnt hf
/-- The same row, the same ref. -/
theorem rowR_inj (h : Ok S M N) (hf : hasR N f) (hg : hasR N g) (e : rowR S N f = rowR S N g) : f = g := by
  refine h.canon hf hg (fun p hp => ?_)
  have hL : PtL S ((List.range S.length).map fun i => ((p i : Nat) : Int)) := ⟨by simp, fun i hi => by
    have hi' : i < S.length := by simpa using hi
    rw [List.getD_eq_getElem?_getD, List.getElem?_eq_getElem hi]
    simp only [List.getElem_map, List.getElem_range, Option.getD_some]
    exact ⟨by omega, hp i hi'⟩⟩
  have hn := idx_lt S _ hL
  have e1 := congrArg (fun L => List.getD L (idx S ((List.range S.length).map fun i => ((p i : Nat) : Int))) false) e
  simp only [rowR] at e1
  rw [rowP_get hn, rowP_get hn, pnL_idx S _ hL] at e1
  have hag : ∀ j, 0 ≤ j → j < S.length → p j = ptf ((List.range S.length).map fun i => ((p i : Nat) : Int)) j := fun j _ hj => by
    unfold ptf
    rw [List.getD_eq_getElem?_getD, List.getElem?_eq_getElem (by simpa using hj)]
    simp
  have a1 := say_hang h _ f (Nat.le_refl _) hf 0 (by have := (h.lvl_le hf).1; omega) p _ hp hL.pnt hag
  have a2 := say_hang h _ g (Nat.le_refl _) hg 0 (by have := (h.lvl_le hg).1; omega) p _ hp hL.pnt hag
  simp only at a1 a2
  rw [a1, a2]
  exact e1
/-- A point with one class changed. -/
theorem ptf_set {L : List Int} {l c : Nat} (hl : l < L.length) : ptf (L.set l (c : Int)) = upd (ptf L) l c := by
  funext j
  unfold ptf
  by_cases e : j = l
  · subst e
    rw [upd_at, List.getD_eq_getElem?_getD, List.getElem?_set_self hl]
    simp
  · rw [upd_ne _ _ e, List.getD_eq_getElem?_getD, List.getElem?_set_ne (fun h => e h.symm), ← List.getD_eq_getElem?_getD]
theorem PtL.set {L : List Int} {l c : Nat} (h : PtL S L) (hc : (c : Int) < S.getD l 0) : PtL S (L.set l (c : Int)) := ⟨by rw [List.length_set]; exact h.len, fun i hi => by
  rw [List.length_set] at hi
  by_cases e : i = l
  · subst e
    rw [List.getD_eq_getElem?_getD (l := L.set i (c : Int)), List.getElem?_set_self hi]
    exact ⟨by simp, by simpa using hc⟩
  · rw [List.getD_eq_getElem?_getD (l := L.set l (c : Int)), List.getElem?_set_ne (fun h => e h.symm), ← List.getD_eq_getElem?_getD]
    exact h.each i hi⟩
end
end Go.Proofs.Ytaafeflbanoncaa
