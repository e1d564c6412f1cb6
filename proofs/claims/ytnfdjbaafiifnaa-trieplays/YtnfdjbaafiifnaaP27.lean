/-
  The document's Right of rows by its contract. Condition: a list is no longer than a process can hold.
-/
import Derived.Test.YtnfdjbaafiifnaaP25
import Derived.Test.YtnfdjbaafiifnaaP26
import Derived.Test.YtnfdjbaafiifnaaP23
namespace Go.Proofs.Ytnfdjbaafiifnaa
open Go.RowKit Go.Lib

set_option maxRecDepth 100000 in
theorem refIsLabel_any (l : Int) (w : World) : Calls Try.prog 27 #[.int .i64 l] w fun e w' => e = .returned (.bool (decide (Lab l))) ∧ w' = w := by
  by_cases h1 : 0 ≤ l <;> by_cases h2 : l ≤ 65535 <;>
    (first | rw [show decide (Lab l) = true from decide_eq_true ⟨h1, h2⟩] | rw [show decide (Lab l) = false from decide_eq_false (fun h => by unfold Lab at h; omega)]) <;>
    (go_enter Try.func27, Try.ntmps27; go_wp2; go_ret; exact ⟨rfl, rfl⟩)
/-- What has been found right: R, and what comes next. -/
structure RgP (L : List RZ) (R : List Rw) (nx : Nat) : Prop where
  pre : L.take R.length = zr R
  iff : ∀ S, RtR none 0 (R ++ S) ↔ RtR R.getLast? nx S
  al : ∀ r ∈ R, Al r
theorem RgP.nil (L : List RZ) : RgP L [] 0 := ⟨by simp [zr], fun S => Iff.rfl, fun r hr => (by cases hr)⟩
theorem RgP.step {L : List RZ} {R : List Rw} {nx : Nat} (h : RgP L R nx) {r : Rw} (hk : R.length < L.length) (hr : L[R.length] = (((r.1.1 : Int), (r.1.2 : Int)), r.2)) (h1 : Al r ∧ Lab r.2 ∧ r.1.1 = nx ∧ ¬ Hlv R.getLast? r) : RgP L (R ++ [r]) (nx + 2 ^ (32 - r.1.2)) := by
  refine ⟨?_, fun S => ?_, fun s hs => ?_⟩
  · rw [List.length_append, List.length_singleton, List.take_succ_eq_append_getElem hk, h.pre, hr, zr_append]
    rfl
  · rw [List.append_assoc, List.singleton_append, h.iff, List.getLast?_append]
    simp only [List.getLast?_singleton, Option.some_or]
    exact ⟨fun hh => hh.2, fun hh => ⟨h1, hh⟩⟩
  · rcases List.mem_append.1 hs with hs | hs
    · exact h.al s hs
    · rw [List.mem_singleton.1 hs]; exact h1.1
/-- Where the next row is not right. -/
theorem RgP.bad {L : List RZ} {R : List Rw} {nx : Nat} (h : RgP L R nx) (hk : R.length < L.length) (hb : ∀ r : Rw, L[R.length] = (((r.1.1 : Int), (r.1.2 : Int)), r.2) → ¬ (Al r ∧ Lab r.2 ∧ r.1.1 = nx ∧ ¬ Hlv R.getLast? r)) : ¬ ∃ R, L = zr R ∧ RtR none 0 R := by
  rintro ⟨R0, hL, h0⟩
  have hlen : L.length = R0.length := by rw [hL, zr_length]
  have hpre : R0.take R.length = R := by
    refine zr_inj ?_
    rw [← h.pre, hL]
    simp [zr, List.map_take]
  have hlt : R.length < R0.length := by omega
  have hsp : R0 = R ++ R0[R.length] :: R0.drop (R.length + 1) := by
    conv => lhs; rw [← List.take_append_drop R.length R0, hpre, List.drop_eq_getElem_cons hlt]
  rw [hsp, h.iff] at h0
  refine hb R0[R.length] ?_ h0.1
  subst hL
  simp [zr]
theorem RgP.whole {L : List RZ} {R : List Rw} {nx : Nat} (h : RgP L R nx) (hk : R.length = L.length) : (∃ R, L = zr R ∧ RtR none 0 R) ↔ nx = 4294967296 := by
  have hpre := h.pre
  rw [hk, List.take_length] at hpre
  have key : RtR none 0 R ↔ nx = 4294967296 := by have := h.iff []; rwa [List.append_nil] at this
  constructor
  · rintro ⟨R0, hL, h0⟩
    rw [hpre] at hL
    have := zr_inj hL
    subst this
    exact key.1 h0
  · exact fun e => ⟨R, hpre, key.2 e⟩
end Go.Proofs.Ytnfdjbaafiifnaa
