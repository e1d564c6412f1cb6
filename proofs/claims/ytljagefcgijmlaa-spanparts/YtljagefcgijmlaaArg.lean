/-
  A list of spans that came in as an argument lies in memory as the walks ask it. Condition: the form's own reach.
-/
import Derived.Test.YtljagefcgijmlaaAwake
import Derived.Deep.Slices
import Derived.SizedLaws
namespace Go.Proofs.Ytljagefcgijmlaa
open Go.RowKit Go.Deep

theorem weightsAll_mem {H : Type} {P : Program} {e : TypeId} {l : List (DataW H)} {d : DataW H} (hd : d ∈ l) : ∀ n ∈ d.weights P e, n ∈ DataW.weightsAll P e l := by
  induction l with
  | nil => cases hd
  | cons x l ih =>
    intro n hn
    rw [DataW.weightsAll, List.mem_append]
    rcases List.mem_cons.1 hd with rfl | h
    · exact .inl hn
    · exact .inr (ih h n hn)
theorem Try.cells46 : Try.prog.cellsOf 46 = 2 := by kernel_rfl
theorem Try.bytes46 : Try.prog.bytesOf 46 = 16 := by kernel_rfl
theorem Try.cells3 : Try.prog.cellsOf 3 = 1 := by kernel_rfl
theorem two {α : Type} (l : List α) (h : l.length = 2) : ∃ a b, l = [a, b] := by
  match l, h with
  | [a, b], _ => exact ⟨a, b, rfl⟩

/-- One span, read. -/
theorem span_read {H : Type} {enc : TypeId × Value → H} {W : World} {base n : Nat} {spare : Nat → Bool} {held : Bool} {a : Addr} {i : Nat} {cs : List Value} {x : DataW H × List MemPlace}
    (h1 : W.cells? base (a.add (i * 2)) 2 = some cs) (h2 : DataW.trod enc Try.prog W base spare held n 46 cs = some x) :
    ∃ s : Spn, W.cell? (a.add (i * 2)) = some (.int .i64 s.1) ∧ W.cell? (a.add (i * 2 + 1)) = some (.int .i64 s.2) := by
  obtain ⟨_, hlen, hcell⟩ := World.cells?_some h1
  obtain ⟨xs, k, _, hxy, _, hxl, hf⟩ := DataW.trod_struct Try.underlying46 h2
  obtain ⟨v0, v1, rfl⟩ := two cs hlen
  obtain ⟨y0, y1, rfl⟩ := two xs hxl
  have g0 := hf 0 _ rfl
  have g1 := hf 1 _ rfl
  simp [Try.cells3] at g0 g1
  obtain ⟨n0, e0, f0, w0⟩ := DataW.trod_int Try.underlying3 g0
  obtain ⟨n1, e1, f1, w1⟩ := DataW.trod_int Try.underlying3 g1
  simp only [List.cons.injEq, and_true] at e0 e1
  subst e0 e1
  have c0 := hcell 0 (by decide)
  have c1 := hcell 1 (by decide)
  rw [add_add] at c0 c1
  exact ⟨(n0, n1), by simpa using c0, by simpa using c1⟩
theorem choose_list {p : Nat → Spn → Prop} : ∀ n, (∀ i, i < n → ∃ s, p i s) → ∃ L : List Spn, L.length = n ∧ ∀ i, i < n → p i (L.getD i (0, 0))
  | 0, _ => ⟨[], rfl, fun i hi => absurd hi (Nat.not_lt_zero i)⟩
  | n + 1, h => by
    obtain ⟨L, h1, h2⟩ := choose_list n (fun i hi => h i (by omega))
    obtain ⟨s, hs⟩ := h n (by omega)
    refine ⟨L ++ [s], by simp [h1], fun i hi => ?_⟩
    by_cases hn : i < n
    · have := h2 i hn
      simpa [List.getD_eq_getElem?_getD, List.getElem?_append, h1, hn] using this
    · have : i = n := by omega
      subst this
      subst h1
      simpa [List.getD_eq_getElem?_getD] using hs

/-- A list that came in. -/
theorem spans_open {H : Type} {enc : TypeId × Value → H} {W : World} {fuel : Nat} {a0 : Option Addr} {len cap : Nat} {d : DataW H} {p : List MemPlace}
    (hf : DataW.trod enc Try.prog W 0 (fun _ => true) true fuel 22 [.slice a0 len cap] = some (d, p)) (hw : ∀ k ∈ d.weights Try.prog 22, k ≤ reachBytes) : ∃ L : List Spn, L.length = len ∧ len ≤ cap ∧ len ≤ 140737488351232 ∧ SpAt W a0 L := by
  rcases open_slice Try.underlying22 hf with ⟨hcs, _⟩ | ⟨a, l, c, m, n, D, Pl, hcs, _, hl, hm, hmm, hx, hat⟩
  · injection hcs with hv
    injection hv with e1 e2 e3
    subst e2 e3
    exact ⟨[], rfl, Nat.le_refl _, by omega, .inl rfl⟩
  · injection hcs with hv
    injection hv with e1 e2 e3
    subst e1 e2 e3
    simp only [if_true] at hmm
    subst hmm
    simp only [Prod.mk.injEq] at hx
    obtain ⟨hd, hp⟩ := hx
    have hcap : (len + (m - len)) * 16 ≤ reachBytes := by
      refine hw _ ?_
      rw [hd]
      simp [DataW.weights, Try.underlying22, Try.bytes46]
    have hlen : len ≤ 140737488351232 := by simp only [reachBytes] at hcap; omega
    by_cases h0 : len = 0
    · subst h0
      exact ⟨[], rfl, hl, by omega, .inl rfl⟩
    have each : ∀ i, i < len → ∃ s : Spn, W.cell? (a.add (i * 2)) = some (.int .i64 s.1) ∧ W.cell? (a.add (i * 2 + 1)) = some (.int .i64 s.2) := by
      intro i hi
      obtain ⟨cs', g1, g2⟩ := hat i (by omega)
      rw [Try.cells46] at g1
      exact span_read g1 g2
    obtain ⟨L, hL, hp'⟩ := choose_list len each
    obtain ⟨b, off, spot⟩ := a
    have hz := (hp' 0 (by omega)).1
    have hspot : spot = none := by simpa [Addr.add] using World.cell?_spot hz
    subst hspot
    refine ⟨L, hL, hl, hlen, .inr ⟨b, off, rfl, World.block_lt_of_cell? W _ (by simpa [Addr.add] using hz), fun i hi => ?_⟩⟩
    obtain ⟨q0, q1⟩ := hp' i (by omega)
    rw [addr_add] at q0 q1
    exact ⟨q0, q1⟩
end Go.Proofs.Ytljagefcgijmlaa
