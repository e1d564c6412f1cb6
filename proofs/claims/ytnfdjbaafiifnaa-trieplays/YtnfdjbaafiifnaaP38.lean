/-
  Cuts of a function of which a prefix has another label. Pure. No condition.
-/
import Derived.Test.YtnfdjbaafiifnaaP35
namespace Go.Proofs.Ytnfdjbaafiifnaa
open Go.RowKit Go.Lib

/-- A function with one label from a place on. -/
def putF (g : Nat → Int) (a S : Nat) (l : Int) (n : Nat) : Int := if a ≤ n ∧ n < a + S then l else g n
section
variable {g : Nat → Int} {m : Nat} {C : List Ct}
theorem Cz.le_m (h : Cz g m C) (i : Nat) : 0 ≤ nxt C m i ∧ nxt C m i ≤ m := by
  unfold nxt
  cases hc : C[i]? with
  | none => exact ⟨by show (0 : Int) ≤ (m : Int); omega, Int.le_refl _⟩
  | some c =>
    have := h.pos i c hc
    exact ⟨this.1, Int.le_of_lt this.2⟩
/-- How far the first cuts go. -/
def bdA (C : List Ct) (m A i : Nat) : Nat := min (nxt C m i).toNat A
theorem pu_first (h : Cz g m C) (A : Nat) (hp : 0 < C.length) : bdA C m A 0 = 0 := by
  unfold bdA
  rw [nxt_some (List.getElem?_eq_getElem hp), h.first _ (List.getElem?_eq_getElem hp)]
  simp
theorem pu_step (h : Cz g m C) {A i : Nat} (hi : i < C.length) (hA : C[i].1 < (A : Int)) : withL (cuts g (bdA C m A i)) C[i] = cuts g (bdA C m A (i + 1)) := by
  have hc : C[i]? = some C[i] := List.getElem?_eq_getElem hi
  obtain ⟨p1, p2⟩ := h.pos i _ hc
  have hr := h.rise i _ hc
  obtain ⟨q1, q2⟩ := h.le_m (i + 1)
  have e : bdA C m A i = C[i].1.toNat := by
    unfold bdA
    rw [nxt_some hc]
    omega
  have hb : C[i].1.toNat < bdA C m A (i + 1) := by
    unfold bdA
    omega
  rw [withL_wiL, e, cuts_to g (l := C[i].2) hb (fun n h1 h2 => h.seg i _ hc n (by omega) (by unfold bdA at h2; omega))]
  congr 1
  exact Prod.ext (by show C[i].1 = ((C[i].1.toNat : Nat) : Int); omega) rfl
theorem pu_stop {A i : Nat} (hAm : A ≤ m) (hi : C.length ≤ i ∨ ∃ hi : i < C.length, (A : Int) ≤ C[i].1) : bdA C m A i = A := by
  unfold bdA
  rcases hi with hi | ⟨hi, hA⟩
  · rw [nxt_none hi]
    omega
  · rw [nxt_some (List.getElem?_eq_getElem hi)]
    omega
theorem pu_mid {A S : Nat} {l : Int} (hS : 0 < S) : withL (cuts g A) ((A : Int), l) = cuts (putF g A S l) (A + S) := by
  rw [withL_wiL, cuts_to (putF g A S l) (l := l) (m := A) (m' := A + S) (by omega) (fun n h1 h2 => by unfold putF; rw [if_pos ⟨h1, h2⟩])]
  congr 1
  exact cuts_congr A (fun n hn => by unfold putF; rw [if_neg (by omega)])
theorem pu_end (h : Cz g m C) {A S i : Nat} {l : Int} (hE : A + S < m) (hi : OfI C ((A + S : Nat) : Int) i) : ∃ hil : i < C.length, withL (cuts (putF g A S l) (A + S)) (((A + S : Nat) : Int), C[i].2) = cuts (putF g A S l) (nxt C m (i + 1)).toNat := by
  obtain ⟨c, hc, hc1, hc2⟩ := hi.get
  obtain ⟨hil, hce⟩ := List.getElem?_eq_some_iff.1 hc
  refine ⟨hil, ?_⟩
  have hn := hc2 m (by omega)
  obtain ⟨q1, q2⟩ := h.le_m (i + 1)
  rw [withL_wiL, hce, cuts_to (putF g A S l) (l := c.2) (m := A + S) (m' := (nxt C m (i + 1)).toNat) (by omega) (fun n h1 h2 => by
    unfold putF
    rw [if_neg (by omega)]
    exact h.seg i c hc n (by omega) (by omega))]
/-- The first place behind. -/
def Behind (C : List Ct) (E : Int) (J : Nat) : Prop := J ≤ C.length ∧ ∀ i (hi : i < C.length), E < C[i].1 ↔ J ≤ i
theorem behind_of (h : Cz g m C) {E : Int} {i : Nat} (hi : OfI C E i) : Behind C E (i + 1) := by
  obtain ⟨a1, a2, a3⟩ := hi
  refine ⟨by omega, fun j hj => ⟨fun hlt => ?_, fun hle => ?_⟩⟩
  · rcases Nat.lt_or_ge i j with h' | h'
    · omega
    · have h3 := h.mono (i - j) j (by omega)
      simp only [show j + (i - j) = i by omega] at h3
      omega
  · have h3 := h.mono (j - (i + 1)) (i + 1) (by omega)
    simp only [show i + 1 + (j - (i + 1)) = j by omega] at h3
    have := a3 (by omega)
    omega
theorem behind_all (h : Cz g m C) : Behind C m C.length := ⟨Nat.le_refl _, fun i hi => ⟨fun hlt => by
  have := (h.pos i _ (List.getElem?_eq_getElem hi)).2
  omega, fun hle => by omega⟩⟩
def bdB (C : List Ct) (m J i : Nat) : Nat := (nxt C m (max i J)).toNat
theorem pv_step (h : Cz g m C) {A S J i : Nat} {l : Int} (hJ : Behind C ((A + S : Nat) : Int) J) (hi : i < C.length) (hE : ((A + S : Nat) : Int) < C[i].1) : withL (cuts (putF g A S l) (bdB C m J i)) C[i] = cuts (putF g A S l) (bdB C m J (i + 1)) := by
  have hc : C[i]? = some C[i] := List.getElem?_eq_getElem hi
  have hJi := (hJ.2 i hi).1 hE
  obtain ⟨p1, p2⟩ := h.pos i _ hc
  have hr := h.rise i _ hc
  obtain ⟨q1, q2⟩ := h.le_m (i + 1)
  have e : bdB C m J i = C[i].1.toNat := by
    unfold bdB
    rw [Nat.max_eq_left hJi, nxt_some hc]
  have e2 : bdB C m J (i + 1) = (nxt C m (i + 1)).toNat := by
    unfold bdB
    rw [Nat.max_eq_left (by omega)]
  rw [withL_wiL, e, e2, cuts_to (putF g A S l) (l := C[i].2) (m := C[i].1.toNat) (m' := (nxt C m (i + 1)).toNat) (by omega) (fun n h1 h2 => by
    unfold putF
    rw [if_neg (by omega)]
    exact h.seg i _ hc n (by omega) (by omega))]
  congr 1
  exact Prod.ext (by show C[i].1 = ((C[i].1.toNat : Nat) : Int); omega) rfl
theorem pv_skip {E : Int} {J i : Nat} (hJ : Behind C E J) (hi : i < C.length) (hE : ¬ E < C[i].1) : bdB C m J (i + 1) = bdB C m J i := by
  have : i < J := by
    rcases Nat.lt_or_ge i J with h | h
    · exact h
    · exact absurd ((hJ.2 i hi).2 h) hE
  unfold bdB
  rw [Nat.max_eq_right (by omega), Nat.max_eq_right (by omega)]
theorem pv_last {E : Int} {J : Nat} (hJ : Behind C E J) : bdB C m J C.length = m := by
  unfold bdB
  rw [Nat.max_eq_left hJ.1, nxt_none (Nat.le_refl _)]
  simp
theorem pv_first {J : Nat} : bdB C m J 0 = (nxt C m J).toNat := by
  unfold bdB
  rw [Nat.max_eq_right (Nat.zero_le _)]
end
end Go.Proofs.Ytnfdjbaafiifnaa
