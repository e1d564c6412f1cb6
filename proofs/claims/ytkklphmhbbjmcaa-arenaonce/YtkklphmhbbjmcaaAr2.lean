/-
  Points that came in as an argument lie in memory as the walks ask it. Condition: the form's own reach.
-/
import Derived.Test.YtkklphmhbbjmcaaArg
import Derived.Test.YtkklphmhbbjmcaaOn0
namespace Go.Proofs.Ytkklphmhbbjmcaa
open Go.RowKit Go.Deep

theorem Try.bytes22 : Try.prog.bytesOf 22 = 24 := by kernel_rfl
theorem choose_pt {p : Nat → PZ → Prop} : ∀ n, (∀ i, i < n → ∃ s, p i s) → ∃ L : List PZ, L.length = n ∧ ∀ i (h : i < L.length), p i L[i]
  | 0, _ => ⟨[], rfl, fun i hi => absurd hi (Nat.not_lt_zero i)⟩
  | n + 1, h => by
    obtain ⟨L, h1, h2⟩ := choose_pt n (fun i hi => h i (by omega))
    obtain ⟨s, hs⟩ := h n (by omega)
    refine ⟨L ++ [s], by simp [h1], fun i hi => ?_⟩
    by_cases hn : i < L.length
    · rw [List.getElem_append_left hn]; exact h2 i hn
    · have : i = L.length := by rw [List.length_append, List.length_singleton] at hi; omega
      subst this
      rw [List.getElem_append_right (Nat.le_refl _)]
      simp only [Nat.sub_self, List.getElem_cons_zero]
      rw [h1]; exact hs
def PtRd (W : World) (a : Addr) (i : Nat) (o : PZ) : Prop := W.cell? (a.add (i * 1)) = some (.slice o.pa o.L.length o.pc) ∧ PtOk W o
/-- Points that came in. -/
theorem points_open {H : Type} {enc : TypeId × Value → H} {W : World} {fuel : Nat} {a0 : Option Addr} {len cap : Nat} {d : DataW H} {p : List MemPlace}
    (hf : DataW.trod enc Try.prog W 0 (fun _ => true) true fuel 36 [.slice a0 len cap] = some (d, p)) (hw : Bnd false 36 d) : ∃ S : List PZ, S.length = len ∧ len ≤ 17592186043904 ∧ PtAt W a0 S := by
  rcases open_slice Try.underlying36 hf with ⟨hcs, _⟩ | ⟨a, l, c, m, n, V, Pl, hcs, _, hl, hm, hmm, hx, hat⟩
  · injection hcs with hv
    injection hv with e1 e2 e3
    subst e2 e3
    exact ⟨[], rfl, Nat.zero_le _, .inl rfl⟩
  · injection hcs with hv
    injection hv with e1 e2 e3
    subst e1 e2 e3
    simp only [if_true] at hmm
    subst hmm
    simp only [Prod.mk.injEq] at hx
    obtain ⟨hd, hp⟩ := hx
    unfold Bnd at hw
    simp only [Bool.false_eq_true, if_false] at hw
    have hlen : len ≤ 17592186043904 := by
      have hcap : (len + (m - len)) * 24 ≤ reachBytes := by
        refine hw _ ?_
        rw [hd]
        simp [DataW.weights, Try.underlying36, Try.bytes22]
      simp only [reachBytes] at hcap
      omega
    by_cases h0 : len = 0
    · subst h0
      exact ⟨[], rfl, Nat.zero_le _, .inl rfl⟩
    have each : ∀ i, i < len → ∃ o : PZ, PtRd W a i o := fun i hi => by
      obtain ⟨cs', g1, g2⟩ := hat i (by omega)
      rw [Try.cells22] at g1
      obtain ⟨_, hlen', hcell⟩ := World.cells?_some g1
      obtain ⟨v, rfl⟩ := one_of cs' hlen'
      obtain ⟨ai, li, ci, rfl⟩ := slice_of Try.underlying22 g2
      obtain ⟨L, e5, hz, hk, hl5⟩ := ints_open (up := false) g2 (by
        unfold Bnd
        simp only [Bool.false_eq_true, if_false]
        intro k hk
        refine hw k ?_
        rw [hd]
        simp only [DataW.weights, Try.underlying36, List.mem_cons, List.mem_append]
        exact .inr (.inl (weightsAll_mem (List.mem_map.2 ⟨i, List.mem_range.2 hi, rfl⟩) k hk)))
      subst e5
      have c0 := hcell 0 (by decide)
      rw [add_add] at c0
      exact ⟨⟨ai, L, ci⟩, by simpa using c0, ⟨hk, hz, hl5⟩⟩
    obtain ⟨L, hL, hp'⟩ := choose_pt len each
    obtain ⟨b, off, spot⟩ := a
    have hz := (hp' 0 (by omega)).1
    have hspot : spot = none := by simpa [Addr.add] using World.cell?_spot hz
    subst hspot
    refine ⟨L, hL, hlen, .inr ⟨b, off, rfl, World.block_lt_of_cell? W _ (by simpa [Addr.add] using hz), fun i hi => ?_⟩⟩
    obtain ⟨q0, r1⟩ := hp' i hi
    rw [addr_add, Nat.mul_one] at q0
    exact ⟨q0, r1⟩
end Go.Proofs.Ytkklphmhbbjmcaa
