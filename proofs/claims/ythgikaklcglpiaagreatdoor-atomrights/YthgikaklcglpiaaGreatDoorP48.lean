/-
  A test that came in as an argument lies in memory as the walks ask it. Condition: the form's own reach.
-/
import Derived.Test.YthgikaklcglpiaaGreatDoorP04
import Derived.Test.YthgikaklcglpiaaGreatDoorP47
import Derived.WideShapes
import Derived.ChangeShapes
namespace Go.Proofs.YthgikaklcglpiaaGreatDoor.L5
open Go.RowKit Go.Deep Go.WideShapes Go.ChangeShapes

theorem choose_by {p : Nat → By → Prop} : ∀ n, (∀ i, i < n → ∃ s, p i s) → ∃ L : List By, L.length = n ∧ ∀ i, i < n → p i (L.getD i [])
  | 0, _ => ⟨[], rfl, fun i hi => absurd hi (Nat.not_lt_zero i)⟩
  | n + 1, h => by
    obtain ⟨L, h1, h2⟩ := choose_by n (fun i hi => h i (by omega))
    obtain ⟨s, hs⟩ := h n (by omega)
    refine ⟨L ++ [s], by simp [h1], fun i hi => ?_⟩
    by_cases hn : i < n
    · have := h2 i hn
      simpa [List.getD_eq_getElem?_getD, List.getElem?_append, h1, hn] using this
    · have : i = n := by omega
      subst this
      subst h1
      simpa [List.getD_eq_getElem?_getD] using hs
theorem Tryz.cells9 : Tryz.prog.cellsOf 9 = 1 := by kernel_rfl
theorem Tryz.bytes9 : Tryz.prog.bytesOf 9 = 16 := by kernel_rfl
theorem Tryz.cells24 : Tryz.prog.cellsOf 24 = 1 := by kernel_rfl
theorem Tryz.cells33 : Tryz.prog.cellsOf 33 = 1 := by kernel_rfl
theorem Tryz.cells35 : Tryz.prog.cellsOf 35 = 5 := by kernel_rfl
theorem one {α : Type} (l : List α) (h : l.length = 1) : ∃ a, l = [a] := by
  match l, h with
  | [a], _ => exact ⟨a, rfl⟩
theorem five {α : Type} (l : List α) (h : l.length = 5) : ∃ a b c d e, l = [a, b, c, d, e] := by
  match l, h with
  | [a, b, c, d, e], _ => exact ⟨a, b, c, d, e, rfl⟩
/-- Texts that came in. -/
theorem names_open {H : Type} {enc : TypeId × Value → H} {W : World} {fuel : Nat} {a0 : Option Addr} {len cap : Nat} {d : DataW H} {p : List MemPlace}
    (hf : DataW.trod enc Tryz.prog W 0 (fun _ => true) true fuel 24 [.slice a0 len cap] = some (d, p)) (hw : ∀ k ∈ d.weights Tryz.prog 24, k ≤ reachBytes) : ∃ L : List By, L.length = len ∧ len ≤ cap ∧ len ≤ 140737488351232 ∧ StAt W a0 L ∧ ∀ s ∈ L, s.length ≤ 140737488351232 := by
  rcases open_slice Tryz.underlying24 hf with ⟨hcs, _⟩ | ⟨a, l, c, m, n, V, Pl, hcs, _, hl, hm, hmm, hx, hat⟩
  · injection hcs with hv
    injection hv with e1 e2 e3
    subst e2 e3
    exact ⟨[], rfl, Nat.le_refl _, by omega, .inl rfl, fun s hs => by cases hs⟩
  · injection hcs with hv
    injection hv with e1 e2 e3
    subst e1 e2 e3
    simp only [if_true] at hmm
    subst hmm
    simp only [Prod.mk.injEq] at hx
    obtain ⟨hd, hp⟩ := hx
    have hcap : (len + (m - len)) * 16 ≤ reachBytes := by
      refine hw _ ?_
      rw [hd]
      simp [DataW.weights, Tryz.underlying24, Tryz.bytes9]
    have hlen : len ≤ 140737488351232 := by simp only [reachBytes] at hcap; omega
    by_cases h0 : len = 0
    · subst h0
      exact ⟨[], rfl, hl, by omega, .inl rfl, fun s hs => by cases hs⟩
    have each : ∀ i, i < len → ∃ s : By, W.cell? (a.add i) = some (.string ⟨s.toArray⟩) ∧ s.length ≤ 140737488351232 := by
      intro i hi
      obtain ⟨cs', g1, g2⟩ := hat i (by omega)
      rw [Tryz.cells9] at g1
      obtain ⟨_, hlen1, hcell⟩ := World.cells?_some g1
      obtain ⟨s, e1, e2, _⟩ := DataW.trod_string Tryz.underlying9 g2
      subst e1
      have c0 := hcell 0 (by decide)
      rw [add_add] at c0
      refine ⟨s.data.toList, by simpa using c0, ?_⟩
      have := hw s.data.toList.length (by
        rw [hd]
        simp only [DataW.weights, Tryz.underlying24, List.mem_cons, List.mem_append]
        refine .inr (.inl (weightsAll_mem (List.mem_map.2 ⟨i, List.mem_range.2 hi, rfl⟩) _ ?_))
        rw [show V i = .lit (.string s.data.toList) from congrArg Prod.fst e2]
        simp [DataW.weights])
      simpa [reachBytes] using this
    obtain ⟨L, hL, hp'⟩ := choose_by len each
    obtain ⟨b, off, spot⟩ := a
    have hz := (hp' 0 (by omega)).1
    have hspot : spot = none := by simpa [Addr.add] using World.cell?_spot hz
    subst hspot
    refine ⟨L, hL, hl, hlen, .inr ⟨b, off, rfl, World.block_lt_of_cell? W _ (by simpa [Addr.add] using hz), fun i hi => ?_⟩, fun s hs => ?_⟩
    · have q0 := (hp' i (by omega)).1
      rw [addr_add] at q0
      exact q0
    · obtain ⟨i, hi, rfl⟩ := List.getElem_of_mem hs
      have := (hp' i (by omega)).2
      rwa [List.getD_eq_getElem?_getD, List.getElem?_eq_getElem hi] at this
set_option maxRecDepth 100000 in
/-- A test that came in. -/
theorem atom_open {H : Type} {enc : TypeId × Value → H} {W : World} {base : Nat} {v : Value} {d : DataW H} {p : List MemPlace} {r : _}
    (hok : Value.okWide Tryz.prog W r base 35 v) (h : DataW.Trod enc Tryz.prog W 0 (fun _ => true) true 35 v d p) (hw : ∀ k ∈ d.weights Tryz.prog 35, k ≤ reachBytes) : ∃ a : AD, v = .agg a.cells ∧ AtV W a := by
  obtain ⟨cs, rfl, hsz⟩ := okWide_struct Tryz.underlying35 hok
  obtain ⟨fuel, hf⟩ := h
  obtain ⟨xs, k, _, hxy, _, hxl, hfs⟩ := DataW.trod_struct Tryz.underlying35 hf
  rw [Tryz.cells35] at hsz
  obtain ⟨l⟩ := cs
  obtain ⟨v0, v1, v2, v3, v4, rfl⟩ := five l (by simpa using hsz)
  obtain ⟨y0, y1, y2, y3, y4, rfl⟩ := five xs hxl
  have g0 := hfs 0 _ rfl
  have g1 := hfs 1 _ rfl
  have g2 := hfs 2 _ rfl
  have g3 := hfs 3 _ rfl
  have g4 := hfs 4 _ rfl
  simp [Value.cells, Tryz.cells3, Tryz.cells9, Tryz.cells42, Tryz.cells24, Tryz.cells33] at g0 g1 g2 g3 g4
  obtain ⟨n0, e0, f0, w0⟩ := DataW.trod_int Tryz.underlying3 g0
  obtain ⟨s1, e1, f1, w1⟩ := DataW.trod_string Tryz.underlying9 g1
  simp only [List.cons.injEq, and_true] at e0 e1
  subst e0 e1
  have sl : ∀ {T E : TypeId} {u : Value} {y : DataW H × List MemPlace} {n : Nat}, Tryz.prog.underlying T = some (.slice E) → DataW.trod enc Tryz.prog W 0 (fun _ => true) true n T [u] = some y → ∃ ai li ci, u = .slice ai li ci := fun ht g => by
    rcases open_slice ht g with ⟨hcs, _⟩ | ⟨a', l', c', _, _, _, _, hcs, _⟩
    · injection hcs with hv; exact ⟨none, 0, 0, hv⟩
    · injection hcs with hv; exact ⟨_, l', c', hv⟩
  obtain ⟨a2, l2, c2, rfl⟩ := sl Tryz.underlying23 g2
  obtain ⟨a3, l3, c3, rfl⟩ := sl Tryz.underlying24 g3
  obtain ⟨a4, l4, c4, rfl⟩ := sl Tryz.underlying33 g4
  have wm : ∀ (j : Nat) (t : TypeId) (y : DataW H), ([3, 9, 23, 24, 33] : List TypeId)[j]? = some t → ([y0.1, y1.1, y2.1, y3.1, y4.1] : List (DataW H))[j]? = some y → ∀ n ∈ y.weights Tryz.prog t, n ≤ reachBytes := fun j t y h1 h2 n hn => hw n (by
    have hd := congrArg Prod.fst hxy
    simp only at hd
    rw [hd]
    simp [DataW.weights, Tryz.underlying35]
    exact DataW.weights_mem_each (j := j) (t := t) h1 h2 n hn)
  obtain ⟨L2, q2, _, b2, t2⟩ := spans_open (d := y2.1) (p := y2.2) g2 (wm 2 23 _ rfl rfl)
  obtain ⟨L3, q3, _, b3, t3, u3⟩ := names_open (d := y3.1) (p := y3.2) g3 (wm 3 24 _ rfl rfl)
  obtain ⟨L4, q4, _, b4, t4⟩ := pieces_open (d := y4.1) (p := y4.2) g4 (wm 4 33 _ rfl rfl)
  have hnm : s1.data.toList.length ≤ 140737488351232 := by
    have := wm 1 9 _ rfl rfl s1.data.toList.length (by rw [f1]; simp [DataW.weights])
    simpa [reachBytes] using this
  subst q2 q3 q4
  exact ⟨⟨n0, s1.data.toList, L2, a2, c2, L3, a3, c3, L4, a4, c4⟩, rfl, ⟨t2, t3, t4, b2, b3, b4, hnm, u3⟩⟩
end Go.Proofs.YthgikaklcglpiaaGreatDoor.L5
