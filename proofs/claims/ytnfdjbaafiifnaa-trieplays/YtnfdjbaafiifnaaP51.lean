/-
  A list of rows (put) that came in as an argument lies in memory as the walks ask it. Condition: the form's own reach.
-/
import Derived.Test.YtnfdjbaafiifnaaP21
import Derived.Deep.Slices
import Derived.SizedLaws
namespace Go.Proofs.Ytnfdjbaafiifnaa
open Go.RowKit Go.Deep

theorem Try.cells42 : Try.prog.cellsOf 42 = 2 := by kernel_rfl
theorem Try.cells3 : Try.prog.cellsOf 3 = 1 := by kernel_rfl
theorem addr_add (b off j : Nat) : (⟨b, off, none⟩ : Addr).add j = ⟨b, off + j, none⟩ := by unfold Addr.add; split <;> simp_all
theorem fit_of_wf {n : Int} (h : (Lit.int .i64 n).wf = true) : Fit n := by
  simp only [Lit.wf, IntKind.min, IntKind.max, IntKind.signed, IntKind.bits, Bool.and_eq_true, decide_eq_true_eq, if_true] at h
  unfold Fit
  omega
theorem two {α : Type} (l : List α) (h : l.length = 2) : ∃ a b, l = [a, b] := by
  match l, h with
  | [a, b], _ => exact ⟨a, b, rfl⟩
theorem three {α : Type} (l : List α) (h : l.length = 3) : ∃ a b c, l = [a, b, c] := by
  match l, h with
  | [a, b, c], _ => exact ⟨a, b, c, rfl⟩
theorem choose_rz {p : Nat → RZ → Prop} : ∀ n, (∀ i, i < n → ∃ s, p i s) → ∃ L : List RZ, L.length = n ∧ ∀ i, i < n → p i (L.getD i ((0, 0), 0))
  | 0, _ => ⟨[], rfl, fun i hi => absurd hi (Nat.not_lt_zero i)⟩
  | n + 1, h => by
    obtain ⟨L, h1, h2⟩ := choose_rz n (fun i hi => h i (by omega))
    obtain ⟨s, hs⟩ := h n (by omega)
    refine ⟨L ++ [s], by simp [h1], fun i hi => ?_⟩
    by_cases hn : i < n
    · have := h2 i hn
      simpa [List.getD_eq_getElem?_getD, List.getElem?_append, h1, hn] using this
    · have : i = n := by omega
      subst this
      subst h1
      simpa [List.getD_eq_getElem?_getD] using hs
theorem Try.cells56 : Try.prog.cellsOf 56 = 3 := by kernel_rfl
theorem Try.bytes56 : Try.prog.bytesOf 56 = 24 := by kernel_rfl
/-- One row, read. -/
theorem row_read56 {H : Type} {enc : TypeId × Value → H} {W : World} {base n : Nat} {spare : Nat → Bool} {held : Bool} {a : Addr} {i : Nat} {cs : List Value} {x : DataW H × List MemPlace}
    (h1 : W.cells? base (a.add (i * 3)) 3 = some cs) (h2 : DataW.trod enc Try.prog W base spare held n 56 cs = some x) :
    ∃ r : RZ, W.cell? (a.add (i * 3)) = some (.int .i64 r.1.1) ∧ W.cell? (a.add (i * 3 + 1)) = some (.int .i64 r.1.2) ∧ W.cell? (a.add (i * 3 + 2)) = some (.int .i64 r.2) ∧ FitR r := by
  obtain ⟨_, hlen, hcell⟩ := World.cells?_some h1
  obtain ⟨v0, v1, v2, rfl⟩ := three cs hlen
  obtain ⟨xs, k, _, hxy, _, hxl, hf⟩ := DataW.trod_struct Try.underlying56 h2
  obtain ⟨y0, y1, rfl⟩ := two xs hxl
  have g0 := hf 0 _ rfl
  have g1 := hf 1 _ rfl
  simp [Try.cells3, Try.cells42] at g0 g1
  obtain ⟨xs', k', _, hxy', _, hxl', hf'⟩ := DataW.trod_struct Try.underlying42 g0
  obtain ⟨z0, z1, rfl⟩ := two xs' hxl'
  have g2 := hf' 0 _ rfl
  have g3 := hf' 1 _ rfl
  simp [Try.cells3] at g2 g3
  obtain ⟨n0, e0, f0, w0⟩ := DataW.trod_int Try.underlying3 g2
  obtain ⟨n1, e1, f1, w1⟩ := DataW.trod_int Try.underlying3 g3
  obtain ⟨n2, e2, f2, w2⟩ := DataW.trod_int Try.underlying3 g1
  simp only [List.cons.injEq, and_true] at e0 e1 e2
  subst e0 e1 e2
  have c0 := hcell 0 (by decide)
  have c1 := hcell 1 (by decide)
  have c2 := hcell 2 (by decide)
  rw [add_add] at c0 c1 c2
  exact ⟨((n0, n1), n2), by simpa using c0, by simpa using c1, by simpa using c2, fit_of_wf w0, fit_of_wf w1, fit_of_wf w2⟩
/-- A list that came in. -/
theorem rows_open56 {H : Type} {enc : TypeId × Value → H} {W : World} {fuel : Nat} {a0 : Option Addr} {len cap : Nat} {d : DataW H} {p : List MemPlace}
    (hf : DataW.trod enc Try.prog W 0 (fun _ => true) true fuel 52 [.slice a0 len cap] = some (d, p)) (hw : ∀ k ∈ d.weights Try.prog 52, k ≤ reachBytes) : ∃ L : List RZ, L.length = len ∧ len ≤ cap ∧ len ≤ 140737488351232 ∧ (∀ r ∈ L, FitR r) ∧ RwAt W a0 L := by
  rcases open_slice Try.underlying52 hf with ⟨hcs, _⟩ | ⟨a, l, c, m, n, D, Pl, hcs, _, hl, hm, hmm, hx, hat⟩
  · injection hcs with hv
    injection hv with e1 e2 e3
    subst e2 e3
    exact ⟨[], rfl, Nat.le_refl _, by omega, fun r hr => (by cases hr), .inl rfl⟩
  · injection hcs with hv
    injection hv with e1 e2 e3
    subst e1 e2 e3
    simp only [if_true] at hmm
    subst hmm
    simp only [Prod.mk.injEq] at hx
    obtain ⟨hd, hp⟩ := hx
    have hcap : (len + (m - len)) * 24 ≤ reachBytes := by
      refine hw _ ?_
      rw [hd]
      simp [DataW.weights, Try.underlying52, Try.bytes56]
    have hlen : len ≤ 140737488351232 := by simp only [reachBytes] at hcap; omega
    by_cases h0 : len = 0
    · subst h0
      exact ⟨[], rfl, hl, by omega, fun r hr => (by cases hr), .inl rfl⟩
    have each : ∀ i, i < len → ∃ r : RZ, W.cell? (a.add (i * 3)) = some (.int .i64 r.1.1) ∧ W.cell? (a.add (i * 3 + 1)) = some (.int .i64 r.1.2) ∧ W.cell? (a.add (i * 3 + 2)) = some (.int .i64 r.2) ∧ FitR r := by
      intro i hi
      obtain ⟨cs', g1, g2⟩ := hat i (by omega)
      rw [Try.cells56] at g1
      exact row_read56 g1 g2
    obtain ⟨L, hL, hp'⟩ := choose_rz len each
    obtain ⟨b, off, spot⟩ := a
    have hz := (hp' 0 (by omega)).1
    have hspot : spot = none := by simpa [Addr.add] using World.cell?_spot hz
    subst hspot
    refine ⟨L, hL, hl, hlen, fun r hr => ?_, .inr ⟨b, off, rfl, World.block_lt_of_cell? W _ (by simpa [Addr.add] using hz), fun i hi => ?_⟩⟩
    · obtain ⟨i, hi, rfl⟩ := List.getElem_of_mem hr
      have := (hp' i (by omega)).2.2.2
      simpa [List.getD_eq_getElem?_getD, hi] using this
    · obtain ⟨q0, q1, q2, _⟩ := hp' i (by omega)
      rw [addr_add] at q0 q1 q2
      exact ⟨q0, q1, q2⟩
end Go.Proofs.Ytnfdjbaafiifnaa
/-
  A list of rows (told) that came in as an argument lies in memory as the walks ask it. Condition: the form's own reach.
-/
namespace Go.Proofs.Ytnfdjbaafiifnaa
open Go.RowKit Go.Deep
theorem Try.cells65 : Try.prog.cellsOf 65 = 3 := by kernel_rfl
theorem Try.bytes65 : Try.prog.bytesOf 65 = 24 := by kernel_rfl
/-- One row, read. -/
theorem row_read65 {H : Type} {enc : TypeId × Value → H} {W : World} {base n : Nat} {spare : Nat → Bool} {held : Bool} {a : Addr} {i : Nat} {cs : List Value} {x : DataW H × List MemPlace}
    (h1 : W.cells? base (a.add (i * 3)) 3 = some cs) (h2 : DataW.trod enc Try.prog W base spare held n 65 cs = some x) :
    ∃ r : RZ, W.cell? (a.add (i * 3)) = some (.int .i64 r.1.1) ∧ W.cell? (a.add (i * 3 + 1)) = some (.int .i64 r.1.2) ∧ W.cell? (a.add (i * 3 + 2)) = some (.int .i64 r.2) ∧ FitR r := by
  obtain ⟨_, hlen, hcell⟩ := World.cells?_some h1
  obtain ⟨v0, v1, v2, rfl⟩ := three cs hlen
  obtain ⟨xs, k, _, hxy, _, hxl, hf⟩ := DataW.trod_struct Try.underlying65 h2
  obtain ⟨y0, y1, rfl⟩ := two xs hxl
  have g0 := hf 0 _ rfl
  have g1 := hf 1 _ rfl
  simp [Try.cells3, Try.cells42] at g0 g1
  obtain ⟨xs', k', _, hxy', _, hxl', hf'⟩ := DataW.trod_struct Try.underlying42 g0
  obtain ⟨z0, z1, rfl⟩ := two xs' hxl'
  have g2 := hf' 0 _ rfl
  have g3 := hf' 1 _ rfl
  simp [Try.cells3] at g2 g3
  obtain ⟨n0, e0, f0, w0⟩ := DataW.trod_int Try.underlying3 g2
  obtain ⟨n1, e1, f1, w1⟩ := DataW.trod_int Try.underlying3 g3
  obtain ⟨n2, e2, f2, w2⟩ := DataW.trod_int Try.underlying3 g1
  simp only [List.cons.injEq, and_true] at e0 e1 e2
  subst e0 e1 e2
  have c0 := hcell 0 (by decide)
  have c1 := hcell 1 (by decide)
  have c2 := hcell 2 (by decide)
  rw [add_add] at c0 c1 c2
  exact ⟨((n0, n1), n2), by simpa using c0, by simpa using c1, by simpa using c2, fit_of_wf w0, fit_of_wf w1, fit_of_wf w2⟩
/-- A list that came in. -/
theorem rows_open65 {H : Type} {enc : TypeId × Value → H} {W : World} {fuel : Nat} {a0 : Option Addr} {len cap : Nat} {d : DataW H} {p : List MemPlace}
    (hf : DataW.trod enc Try.prog W 0 (fun _ => true) true fuel 44 [.slice a0 len cap] = some (d, p)) (hw : ∀ k ∈ d.weights Try.prog 44, k ≤ reachBytes) : ∃ L : List RZ, L.length = len ∧ len ≤ cap ∧ len ≤ 140737488351232 ∧ (∀ r ∈ L, FitR r) ∧ RwAt W a0 L := by
  rcases open_slice Try.underlying44 hf with ⟨hcs, _⟩ | ⟨a, l, c, m, n, D, Pl, hcs, _, hl, hm, hmm, hx, hat⟩
  · injection hcs with hv
    injection hv with e1 e2 e3
    subst e2 e3
    exact ⟨[], rfl, Nat.le_refl _, by omega, fun r hr => (by cases hr), .inl rfl⟩
  · injection hcs with hv
    injection hv with e1 e2 e3
    subst e1 e2 e3
    simp only [if_true] at hmm
    subst hmm
    simp only [Prod.mk.injEq] at hx
    obtain ⟨hd, hp⟩ := hx
    have hcap : (len + (m - len)) * 24 ≤ reachBytes := by
      refine hw _ ?_
      rw [hd]
      simp [DataW.weights, Try.underlying44, Try.bytes65]
    have hlen : len ≤ 140737488351232 := by simp only [reachBytes] at hcap; omega
    by_cases h0 : len = 0
    · subst h0
      exact ⟨[], rfl, hl, by omega, fun r hr => (by cases hr), .inl rfl⟩
    have each : ∀ i, i < len → ∃ r : RZ, W.cell? (a.add (i * 3)) = some (.int .i64 r.1.1) ∧ W.cell? (a.add (i * 3 + 1)) = some (.int .i64 r.1.2) ∧ W.cell? (a.add (i * 3 + 2)) = some (.int .i64 r.2) ∧ FitR r := by
      intro i hi
      obtain ⟨cs', g1, g2⟩ := hat i (by omega)
      rw [Try.cells65] at g1
      exact row_read65 g1 g2
    obtain ⟨L, hL, hp'⟩ := choose_rz len each
    obtain ⟨b, off, spot⟩ := a
    have hz := (hp' 0 (by omega)).1
    have hspot : spot = none := by simpa [Addr.add] using World.cell?_spot hz
    subst hspot
    refine ⟨L, hL, hl, hlen, fun r hr => ?_, .inr ⟨b, off, rfl, World.block_lt_of_cell? W _ (by simpa [Addr.add] using hz), fun i hi => ?_⟩⟩
    · obtain ⟨i, hi, rfl⟩ := List.getElem_of_mem hr
      have := (hp' i (by omega)).2.2.2
      simpa [List.getD_eq_getElem?_getD, hi] using this
    · obtain ⟨q0, q1, q2, _⟩ := hp' i (by omega)
      rw [addr_add] at q0 q1 q2
      exact ⟨q0, q1, q2⟩
end Go.Proofs.Ytnfdjbaafiifnaa
