/-
  Pieces as they lie in memory; many by its contract. No condition.
-/
import Derived.Test.YthgikaklcglpiaaGreatDoorP03
import Derived.Deep.WholeRow
import Derived.Laws.CopyOwn
import Derived.Deep.Slices
import Derived.SizedLaws
import Derived.Test.YthgikaklcglpiaaGreatDoorProg
import Derived.WalkKit
namespace Go.Proofs.YthgikaklcglpiaaGreatDoor.L5
open Go.RowKit Go.Lib

/-- A piece as it lies in memory: where its set is. -/
structure PD where
  p : Pc
  so : Option Addr
  sc : Nat
def PD.v (d : PD) : Value := .slice d.so d.p.set.length d.sc
def PD.cells (d : PD) : List Value := [.int .i64 d.p.kind, .int .i64 d.p.b, .bool d.p.no, d.v]
def pdCells (D : List PD) : List Value := D.flatMap PD.cells
theorem pdCells_snoc (D : List PD) (d : PD) : pdCells (D ++ [d]) = pdCells D ++ [.int .i64 d.p.kind, .int .i64 d.p.b, .bool d.p.no, .slice d.so d.p.set.length d.sc] := by simp [pdCells, PD.cells, PD.v]
/-- Pieces that begin at ao. -/
def PcAt (w : World) (ao : Option Addr) (D : List PD) : Prop := D = [] ∨ ∃ b off, ao = some ⟨b, off, none⟩ ∧ b < w.heap.size ∧ ∀ i (h : i < D.length), w.cell? ⟨b, off + i * 4, none⟩ = some (.int .i64 D[i].p.kind) ∧ w.cell? ⟨b, off + i * 4 + 1, none⟩ = some (.int .i64 D[i].p.b) ∧ w.cell? ⟨b, off + i * 4 + 2, none⟩ = some (.bool D[i].p.no) ∧ w.cell? ⟨b, off + i * 4 + 3, none⟩ = some (.slice D[i].so D[i].p.set.length D[i].sc) ∧ SpAt w D[i].so D[i].p.set
theorem PcAt.below {w w' : World} {ao : Option Addr} {D : List PD} (h : PcAt w ao D) (hb : Below w.heap.size w w') : PcAt w' ao D := by
  rcases h with rfl | ⟨b, off, e, hlt, h⟩
  · exact .inl rfl
  · refine .inr ⟨b, off, e, Nat.lt_of_lt_of_le hlt hb.size, fun i hi => ?_⟩
    obtain ⟨a0, a1, a2, a3, a4⟩ := h i hi
    exact ⟨(hb.cell (p := ⟨b, _, none⟩) hlt).trans a0, (hb.cell (p := ⟨b, _, none⟩) hlt).trans a1, (hb.cell (p := ⟨b, _, none⟩) hlt).trans a2, (hb.cell (p := ⟨b, _, none⟩) hlt).trans a3, a4.below hb⟩
theorem pdCells_get (D : List PD) (i : Nat) (h : i < D.length) : (pdCells D)[i * 4]? = some (.int .i64 D[i].p.kind) ∧ (pdCells D)[i * 4 + 1]? = some (.int .i64 D[i].p.b) ∧ (pdCells D)[i * 4 + 2]? = some (.bool D[i].p.no) ∧ (pdCells D)[i * 4 + 3]? = some D[i].v := by
  induction D generalizing i with
  | nil => simp at h
  | cons d D ih =>
    have e : pdCells (d :: D) = .int .i64 d.p.kind :: .int .i64 d.p.b :: .bool d.p.no :: d.v :: pdCells D := by simp [pdCells, PD.cells]
    rw [e]
    cases i with
    | zero => simp
    | succ i =>
      have := ih i (by simpa using h)
      rw [show (i + 1) * 4 = i * 4 + 4 by omega]
      simpa using this
def manyK (k : Int) : Bool := decide (k = 4) || decide (k = 5)
set_option maxRecDepth 100000 in
theorem many_any (k b : Int) (no : Bool) (so : Option Addr) (n c : Nat) (w : World) : Calls Tryz.prog 162 #[.agg #[.int .i64 k, .int .i64 b, .bool no, .slice so n c]] w fun e w' => e = .returned (.bool (manyK k)) ∧ Below w.heap.size w w' := by
  by_cases h4 : k = 4
  · have HE : Hid (manyK k = true) := by simp [Hid, manyK, h4]
    go_enter Tryz.func162, Tryz.ntmps162
    go_wp2
    go_ret
    exact ⟨by rw [HE.out]; rfl, al (Below.refl _ _) _⟩
  · by_cases h5 : k = 5
    · have HE : Hid (manyK k = true) := by simp [Hid, manyK, h5]
      go_enter Tryz.func162, Tryz.ntmps162
      go_wp2
      go_ret
      exact ⟨by rw [HE.out]; rfl, al (Below.refl _ _) _⟩
    · go_enter Tryz.func162, Tryz.ntmps162
      go_wp2
      go_ret
      refine ⟨?_, al (Below.refl _ _) _⟩
      show Ending.returned (Value.bool (k == 4 || k == 5)) = _
      simp [manyK, h4, h5]
theorem pdCells_length (D : List PD) : (pdCells D).length = D.length * 4 := by
  induction D with
  | nil => rfl
  | cons d D ih =>
    have e : pdCells (d :: D) = .int .i64 d.p.kind :: .int .i64 d.p.b :: .bool d.p.no :: d.v :: pdCells D := by simp [pdCells, PD.cells]
    rw [e]
    simp only [List.length_cons]
    omega
theorem PcAt.cells {w : World} {ad : Addr} {D : List PD} (h : PcAt w (some ad) D) : ∀ j u, (pdCells D)[j]? = some u → w.cell? (ad.add j) = some u := by
  intro j v hv
  rcases h with rfl | ⟨b, off, e, _, h⟩
  · simp [pdCells] at hv
  · cases e
    have hj : j < D.length * 4 := by
      rw [← pdCells_length]
      exact (List.getElem?_eq_some_iff.1 hv).1
    obtain ⟨g0, g1, g2, g3⟩ := pdCells_get D (j / 4) (by omega)
    obtain ⟨c0, c1, c2, c3, _⟩ := h (j / 4) (by omega)
    have ha : (⟨b, off, none⟩ : Addr).add j = ⟨b, off + j, none⟩ := by simp [Addr.add]
    rw [ha]
    rcases (by omega : j = j / 4 * 4 ∨ j = j / 4 * 4 + 1 ∨ j = j / 4 * 4 + 2 ∨ j = j / 4 * 4 + 3) with e | e | e | e
    · rw [e] at hv ⊢
      rw [← hv, g0]; exact c0
    · rw [e] at hv ⊢
      rw [← hv, g1]; exact c1
    · rw [e] at hv ⊢
      rw [← hv, g2]; exact c2
    · rw [e] at hv ⊢
      rw [← hv, g3]; exact c3
theorem PcAt.some {w : World} {ao : Option Addr} {D : List PD} (h : PcAt w ao D) (h0 : 0 < D.length) : ao ≠ none := by
  rcases h with rfl | ⟨b, off, e, _⟩
  · exact absurd h0 (Nat.lt_irrefl _)
  · rw [e]; exact fun h => by cases h
theorem PcAt.sets {w : World} {ao : Option Addr} {D : List PD} (h : PcAt w ao D) : ∀ d ∈ D, SpAt w d.so d.p.set := by
  intro d hd
  rcases h with rfl | ⟨b, off, _, _, h⟩
  · cases hd
  · obtain ⟨i, hi, rfl⟩ := List.getElem_of_mem hd
    exact (h i hi).2.2.2.2
theorem cells4 {W : World} {g : Nat} {x y z u : Value} {T : TypeId} (B : W.heap[g]? = some (.cells #[x, y, z, u] T (0, 0))) : W.cell? ⟨g, 0, none⟩ = some x ∧ W.cell? ⟨g, 1, none⟩ = some y ∧ W.cell? ⟨g, 2, none⟩ = some z ∧ W.cell? ⟨g, 3, none⟩ = some u := by
  refine ⟨?_, ?_, ?_, ?_⟩ <;> (rw [cell_of_row _ _ _ _ _ _ B]; rfl)
theorem addr_add (b off n : Nat) : (⟨b, off, none⟩ : Addr).add n = ⟨b, off + n, none⟩ := by unfold Addr.add; split <;> simp_all
end Go.Proofs.YthgikaklcglpiaaGreatDoor.L5
/-
  A list of spans that came in as an argument lies in memory as the walks ask it. Condition: the form's own reach.
-/
namespace Go.Proofs.YthgikaklcglpiaaGreatDoor.L5
open Go.RowKit Go.Deep

theorem weightsAll_mem {H : Type} {P : Program} {e : TypeId} {l : List (DataW H)} {d : DataW H} (hd : d ∈ l) : ∀ n ∈ d.weights P e, n ∈ DataW.weightsAll P e l := by
  induction l with
  | nil => cases hd
  | cons x l ih =>
    intro n hn
    rw [DataW.weightsAll, List.mem_append]
    rcases List.mem_cons.1 hd with rfl | h
    · exact .inl hn
    · exact .inr (ih h n hn)
theorem Tryz.cells59 : Tryz.prog.cellsOf 75 = 2 := by kernel_rfl
theorem Tryz.bytes75 : Tryz.prog.bytesOf 75 = 16 := by kernel_rfl
theorem Tryz.cells3 : Tryz.prog.cellsOf 3 = 1 := by kernel_rfl
theorem two {α : Type} (l : List α) (h : l.length = 2) : ∃ a b, l = [a, b] := by
  match l, h with
  | [a, b], _ => exact ⟨a, b, rfl⟩

/-- One span, read. -/
theorem span_read {H : Type} {enc : TypeId × Value → H} {W : World} {base n : Nat} {spare : Nat → Bool} {held : Bool} {a : Addr} {i : Nat} {cs : List Value} {x : DataW H × List MemPlace}
    (h1 : W.cells? base (a.add (i * 2)) 2 = some cs) (h2 : DataW.trod enc Tryz.prog W base spare held n 75 cs = some x) :
    ∃ s : Spn, W.cell? (a.add (i * 2)) = some (.int .i64 s.1) ∧ W.cell? (a.add (i * 2 + 1)) = some (.int .i64 s.2) := by
  obtain ⟨_, hlen, hcell⟩ := World.cells?_some h1
  obtain ⟨xs, k, _, hxy, _, hxl, hf⟩ := DataW.trod_struct Tryz.underlying75 h2
  obtain ⟨v0, v1, rfl⟩ := two cs hlen
  obtain ⟨y0, y1, rfl⟩ := two xs hxl
  have g0 := hf 0 _ rfl
  have g1 := hf 1 _ rfl
  simp [Tryz.cells3] at g0 g1
  obtain ⟨n0, e0, f0, w0⟩ := DataW.trod_int Tryz.underlying3 g0
  obtain ⟨n1, e1, f1, w1⟩ := DataW.trod_int Tryz.underlying3 g1
  simp only [List.cons.injEq, and_true] at e0 e1
  subst e0 e1
  have c0 := hcell 0 (by decide)
  have c1 := hcell 1 (by decide)
  rw [add_add] at c0 c1
  exact ⟨(n0, n1), by simpa using c0, by simpa using c1⟩
theorem choose_list {p : Nat → Spn → Prop} : ∀ n, (∀ i, i < n → ∃ s, p i s) → ∃ L : List Spn, L.length = n ∧ ∀ i, i < n → p i (L.getD i (0, 0))
  | 0, _ => ⟨[], rfl, fun i hi => absurd hi (Nat.not_lt_zero i)⟩
  | n + 1, h => by
    obtain ⟨L, h1, h2⟩ := choose_list n (fun i hi => h i (by omega))
    obtain ⟨s, hs⟩ := h n (by omega)
    refine ⟨L ++ [s], by simp [h1], fun i hi => ?_⟩
    by_cases hn : i < n
    · have := h2 i hn
      simpa [List.getD_eq_getElem?_getD, List.getElem?_append, h1, hn] using this
    · have : i = n := by omega
      subst this
      subst h1
      simpa [List.getD_eq_getElem?_getD] using hs

/-- A list that came in. -/
theorem spans_open {H : Type} {enc : TypeId × Value → H} {W : World} {fuel : Nat} {a0 : Option Addr} {len cap : Nat} {d : DataW H} {p : List MemPlace}
    (hf : DataW.trod enc Tryz.prog W 0 (fun _ => true) true fuel 23 [.slice a0 len cap] = some (d, p)) (hw : ∀ k ∈ d.weights Tryz.prog 23, k ≤ reachBytes) : ∃ L : List Spn, L.length = len ∧ len ≤ cap ∧ len ≤ 140737488351232 ∧ SpAt W a0 L := by
  rcases open_slice Tryz.underlying23 hf with ⟨hcs, _⟩ | ⟨a, l, c, m, n, D, Pl, hcs, _, hl, hm, hmm, hx, hat⟩
  · injection hcs with hv
    injection hv with e1 e2 e3
    subst e2 e3
    exact ⟨[], rfl, Nat.le_refl _, by omega, .inl rfl⟩
  · injection hcs with hv
    injection hv with e1 e2 e3
    subst e1 e2 e3
    simp only [if_true] at hmm
    subst hmm
    simp only [Prod.mk.injEq] at hx
    obtain ⟨hd, hp⟩ := hx
    have hcap : (len + (m - len)) * 16 ≤ reachBytes := by
      refine hw _ ?_
      rw [hd]
      simp [DataW.weights, Tryz.underlying23, Tryz.bytes75]
    have hlen : len ≤ 140737488351232 := by simp only [reachBytes] at hcap; omega
    by_cases h0 : len = 0
    · subst h0
      exact ⟨[], rfl, hl, by omega, .inl rfl⟩
    have each : ∀ i, i < len → ∃ s : Spn, W.cell? (a.add (i * 2)) = some (.int .i64 s.1) ∧ W.cell? (a.add (i * 2 + 1)) = some (.int .i64 s.2) := by
      intro i hi
      obtain ⟨cs', g1, g2⟩ := hat i (by omega)
      rw [Tryz.cells59] at g1
      exact span_read g1 g2
    obtain ⟨L, hL, hp'⟩ := choose_list len each
    obtain ⟨b, off, spot⟩ := a
    have hz := (hp' 0 (by omega)).1
    have hspot : spot = none := by simpa [Addr.add] using World.cell?_spot hz
    subst hspot
    refine ⟨L, hL, hl, hlen, .inr ⟨b, off, rfl, World.block_lt_of_cell? W _ (by simpa [Addr.add] using hz), fun i hi => ?_⟩⟩
    obtain ⟨q0, q1⟩ := hp' i (by omega)
    rw [addr_add] at q0 q1
    exact ⟨q0, q1⟩
theorem Tryz.cells44 : Tryz.prog.cellsOf 83 = 4 := by kernel_rfl
theorem Tryz.bytes83 : Tryz.prog.bytesOf 83 = 48 := by kernel_rfl
theorem Tryz.cells42 : Tryz.prog.cellsOf 23 = 1 := by kernel_rfl
theorem Tryz.cells4' : Tryz.prog.cellsOf 4 = 1 := by kernel_rfl
theorem four {α : Type} (l : List α) (h : l.length = 4) : ∃ a b c d, l = [a, b, c, d] := by
  match l, h with
  | [a, b, c, d], _ => exact ⟨a, b, c, d, rfl⟩
/-- One piece, read. -/
theorem piece_read {H : Type} {enc : TypeId × Value → H} {W : World} {n : Nat} {a : Addr} {i : Nat} {cs : List Value} {x : DataW H × List MemPlace}
    (h1 : W.cells? 0 (a.add (i * 4)) 4 = some cs) (h2 : DataW.trod enc Tryz.prog W 0 (fun _ => true) true n 83 cs = some x) (hw : ∀ k ∈ x.1.weights Tryz.prog 83, k ≤ reachBytes) :
    ∃ d : PD, W.cell? (a.add (i * 4)) = some (.int .i64 d.p.kind) ∧ W.cell? (a.add (i * 4 + 1)) = some (.int .i64 d.p.b) ∧ W.cell? (a.add (i * 4 + 2)) = some (.bool d.p.no) ∧ W.cell? (a.add (i * 4 + 3)) = some (.slice d.so d.p.set.length d.sc) ∧ SpAt W d.so d.p.set := by
  obtain ⟨_, hlen, hcell⟩ := World.cells?_some h1
  obtain ⟨xs, k, _, hxy, _, hxl, hf⟩ := DataW.trod_struct Tryz.underlying83 h2
  obtain ⟨v0, v1, v2, v3, rfl⟩ := four cs hlen
  obtain ⟨y0, y1, y2, y3, rfl⟩ := four xs hxl
  have g0 := hf 0 _ rfl
  have g1 := hf 1 _ rfl
  have g2 := hf 2 _ rfl
  have g3 := hf 3 _ rfl
  simp [Tryz.cells3, Tryz.cells4', Tryz.cells42] at g0 g1 g2 g3
  obtain ⟨n0, e0, f0, w0⟩ := DataW.trod_int Tryz.underlying3 g0
  obtain ⟨n1, e1, f1, w1⟩ := DataW.trod_int Tryz.underlying3 g1
  obtain ⟨b2, e2, f2⟩ := DataW.trod_bool Tryz.underlying4 g2
  simp only [List.cons.injEq, and_true] at e0 e1 e2
  subst e0 e1 e2
  obtain ⟨ai, li, ci, rfl⟩ : ∃ ai li ci, v3 = .slice ai li ci := by
    rcases open_slice Tryz.underlying23 g3 with ⟨hcs, _⟩ | ⟨a', l', c', _, _, _, _, hcs, _⟩
    · injection hcs with hv; exact ⟨none, 0, 0, hv⟩
    · injection hcs with hv; exact ⟨_, l', c', hv⟩
  obtain ⟨L, e3, _, _, hs⟩ := spans_open (d := y3.1) (p := y3.2) g3 (fun k hk => hw k (by
    rw [hxy]
    simp [DataW.weights, Tryz.underlying83]
    exact DataW.weights_mem_each (j := 3) (t := 23) rfl rfl k hk))
  subst e3
  have c0 := hcell 0 (by decide)
  have c1 := hcell 1 (by decide)
  have c2 := hcell 2 (by decide)
  have c3 := hcell 3 (by decide)
  rw [add_add] at c0 c1 c2 c3
  exact ⟨⟨⟨n0, n1, b2, L⟩, ai, ci⟩, by simpa using c0, by simpa using c1, by simpa using c2, by simpa using c3, hs⟩
theorem choose_pd {p : Nat → PD → Prop} : ∀ n, (∀ i, i < n → ∃ s, p i s) → ∃ L : List PD, L.length = n ∧ ∀ i (h : i < L.length), p i L[i]
  | 0, _ => ⟨[], rfl, fun i hi => absurd hi (Nat.not_lt_zero i)⟩
  | n + 1, h => by
    obtain ⟨L, h1, h2⟩ := choose_pd n (fun i hi => h i (by omega))
    obtain ⟨s, hs⟩ := h n (by omega)
    refine ⟨L ++ [s], by simp [h1], fun i hi => ?_⟩
    by_cases hn : i < L.length
    · rw [List.getElem_append_left hn]; exact h2 i hn
    · have : i = L.length := by rw [List.length_append, List.length_singleton] at hi; omega
      subst this
      rw [List.getElem_append_right (Nat.le_refl _)]
      simp only [Nat.sub_self, List.getElem_cons_zero]
      rw [h1]; exact hs
/-- Pieces that came in. -/
theorem pieces_open {H : Type} {enc : TypeId × Value → H} {W : World} {fuel : Nat} {a0 : Option Addr} {len cap : Nat} {d : DataW H} {p : List MemPlace}
    (hf : DataW.trod enc Tryz.prog W 0 (fun _ => true) true fuel 33 [.slice a0 len cap] = some (d, p)) (hw : ∀ k ∈ d.weights Tryz.prog 33, k ≤ reachBytes) : ∃ D : List PD, D.length = len ∧ len ≤ cap ∧ len ≤ 140737488351232 ∧ PcAt W a0 D := by
  rcases open_slice Tryz.underlying33 hf with ⟨hcs, _⟩ | ⟨a, l, c, m, n, V, Pl, hcs, _, hl, hm, hmm, hx, hat⟩
  · injection hcs with hv
    injection hv with e1 e2 e3
    subst e2 e3
    exact ⟨[], rfl, Nat.le_refl _, by omega, .inl rfl⟩
  · injection hcs with hv
    injection hv with e1 e2 e3
    subst e1 e2 e3
    simp only [if_true] at hmm
    subst hmm
    simp only [Prod.mk.injEq] at hx
    obtain ⟨hd, hp⟩ := hx
    have hcap : (len + (m - len)) * 48 ≤ reachBytes := by
      refine hw _ ?_
      rw [hd]
      simp [DataW.weights, Tryz.underlying33, Tryz.bytes83]
    have hlen : len ≤ 140737488351232 := by simp only [reachBytes] at hcap; omega
    by_cases h0 : len = 0
    · subst h0
      exact ⟨[], rfl, hl, by omega, .inl rfl⟩
    have each : ∀ i, i < len → ∃ d : PD, W.cell? (a.add (i * 4)) = some (.int .i64 d.p.kind) ∧ W.cell? (a.add (i * 4 + 1)) = some (.int .i64 d.p.b) ∧ W.cell? (a.add (i * 4 + 2)) = some (.bool d.p.no) ∧ W.cell? (a.add (i * 4 + 3)) = some (.slice d.so d.p.set.length d.sc) ∧ SpAt W d.so d.p.set := by
      intro i hi
      obtain ⟨cs', g1, g2⟩ := hat i (by omega)
      rw [Tryz.cells44] at g1
      refine piece_read g1 g2 (fun k hk => hw k ?_)
      rw [hd]
      simp only [DataW.weights, Tryz.underlying33, List.mem_cons, List.mem_append]
      exact .inr (.inl (weightsAll_mem (List.mem_map.2 ⟨i, List.mem_range.2 hi, rfl⟩) k hk))
    obtain ⟨L, hL, hp'⟩ := choose_pd len each
    obtain ⟨b, off, spot⟩ := a
    have hz := (hp' 0 (by omega)).1
    have hspot : spot = none := by simpa [Addr.add] using World.cell?_spot hz
    subst hspot
    refine ⟨L, hL, hl, hlen, .inr ⟨b, off, rfl, World.block_lt_of_cell? W _ (by simpa [Addr.add] using hz), fun i hi => ?_⟩⟩
    obtain ⟨q0, q1, q2, q3, q4⟩ := hp' i hi
    rw [addr_add] at q0 q1 q2 q3
    exact ⟨q0, q1, q2, q3, q4⟩
end Go.Proofs.YthgikaklcglpiaaGreatDoor.L5
/-
  What kind a rune is, by contract. No condition.
-/

namespace Go.Proofs.YthgikaklcglpiaaGreatDoor.L9
open Go.RowKit

def smB (r : Int) : Bool := decide (97 ≤ r) && decide (r ≤ 122)
def grB (r : Int) : Bool := decide (65 ≤ r) && decide (r ≤ 90)
def dgB (r : Int) : Bool := decide (48 ≤ r) && decide (r ≤ 57)
def txB (r : Int) : Bool := decide (32 ≤ r) && decide (r ≤ 126)
def esB (r : Int) : Bool := decide (r = 34) || decide (r = 92)
def blB (r : Int) : Bool := decide (r = 32) || decide (r = 9) || decide (r = 10) || decide (r = 13)
/-- Does a run of a kind (2 small letters, 3 great ones, else digits) go on by a rune? -/
def goB (k : Int) (r : Int) : Bool := if k = 2 then smB r || dgB r || decide (r = 95) || decide (r = 45) else if k = 3 then grB r else dgB r || decide (r = 46) || decide (r = 47)
theorem hide {P : Prop} (h : P) : Hid P := h
theorem isSmall_any (r : Int) (w : World) : Calls Tryz.prog 330 #[.int .i32 r] w fun e w' => e = .returned (.bool (smB r)) ∧ w' = w := by
  by_cases h1 : 97 ≤ r <;> by_cases h2 : r ≤ 122
  all_goals
    go_enter Tryz.func330, Tryz.ntmps330
    go_wp2
    go_ret
    exact ⟨by simp [smB, h1, h2], rfl⟩
theorem isGreat_any (r : Int) (w : World) : Calls Tryz.prog 356 #[.int .i32 r] w fun e w' => e = .returned (.bool (grB r)) ∧ w' = w := by
  by_cases h1 : 65 ≤ r <;> by_cases h2 : r ≤ 90
  all_goals
    go_enter Tryz.func356, Tryz.ntmps356
    go_wp2
    go_ret
    exact ⟨by simp [grB, h1, h2], rfl⟩
theorem isDigit_any (r : Int) (w : World) : Calls Tryz.prog 355 #[.int .i32 r] w fun e w' => e = .returned (.bool (dgB r)) ∧ w' = w := by
  by_cases h1 : 48 ≤ r <;> by_cases h2 : r ≤ 57
  all_goals
    go_enter Tryz.func355, Tryz.ntmps355
    go_wp2
    go_ret
    exact ⟨by simp [dgB, h1, h2], rfl⟩
theorem isText_any (r : Int) (w : World) : Calls Tryz.prog 366 #[.int .i32 r] w fun e w' => e = .returned (.bool (txB r)) ∧ w' = w := by
  by_cases h1 : 32 ≤ r <;> by_cases h2 : r ≤ 126
  all_goals
    go_enter Tryz.func366, Tryz.ntmps366
    go_wp2
    go_ret
    exact ⟨by simp [txB, h1, h2], rfl⟩
theorem isEsc_any (r : Int) (w : World) : Calls Tryz.prog 367 #[.int .i32 r] w fun e w' => e = .returned (.bool (esB r)) ∧ w' = w := by
  by_cases h1 : r = 34
  · subst h1
    go_enter Tryz.func367, Tryz.ntmps367
    go_wp2
    go_ret
    exact ⟨by simp [esB], rfl⟩
  · have e1 : (r == 34) = false := by simp [h1]
    by_cases h2 : r = 92
    · subst h2
      go_enter Tryz.func367, Tryz.ntmps367
      go_wp2
      go_ret
      exact ⟨by simp [esB], rfl⟩
    · have e2 : (r == 92) = false := by simp [h2]
      go_enter Tryz.func367, Tryz.ntmps367
      go_wp2
      go_ret
      exact ⟨by simp [esB, h1, h2], rfl⟩
set_option maxHeartbeats 2000000 in
theorem goesOn_any (k r : Int) (w : World) : Calls Tryz.prog 331 #[.int .i64 k, .int .i32 r] w fun e w' => e = .returned (.bool (goB k r)) ∧ w' = w := by
  have H1 := hide (fun W => isSmall_any r W)
  have H2 := hide (fun W => isDigit_any r W)
  have H3 := hide (fun W => isGreat_any r W)
  have hs : ∀ b, Hid (smB r = b) → Hid (∀ W, Calls Tryz.prog 330 #[.int .i32 r] W fun e w' => e = .returned (.bool b) ∧ w' = W) := fun b h W => by rw [← h.out]; exact H1.out W
  have hd : ∀ b, Hid (dgB r = b) → Hid (∀ W, Calls Tryz.prog 355 #[.int .i32 r] W fun e w' => e = .returned (.bool b) ∧ w' = W) := fun b h W => by rw [← h.out]; exact H2.out W
  by_cases hk : k = 2
  · subst hk
    obtain ⟨b1, e1⟩ : ∃ b, Hid (smB r = b) := ⟨_, rfl⟩
    obtain ⟨b2, e2⟩ : ∃ b, Hid (dgB r = b) := ⟨_, rfl⟩
    have G1 := hs b1 e1
    have G2 := hd b2 e2
    have key : Hid (goB 2 r = (b1 || b2 || decide (r = 95) || decide (r = 45))) := by unfold Hid goB; rw [if_pos rfl, e1.out, e2.out]
    rw [key.out]
    clear hs hd H1 H2 H3 e1 e2 key
    have kk : r = 95 ∨ r = 45 ∨ (¬ r = 95 ∧ ¬ r = 45) := by omega
    cases b1 <;> cases b2 <;> rcases kk with rfl | rfl | ⟨h1, h2⟩
    all_goals
      go_enter Tryz.func331, Tryz.ntmps331
      go_wp2_with (first | (go_at_call 330; refine (G1.out _).mono ?_; rintro e wz ⟨rfl, hwz⟩; have hwz := hwz.symm; subst hwz) | (go_at_call 355; refine (G2.out _).mono ?_; rintro e wz ⟨rfl, hwz⟩; have hwz := hwz.symm; subst hwz))
      go_ret
      exact ⟨by simp_all, rfl⟩
  · have hk2 : (k == 2) = false := by simp [hk]
    by_cases hk3 : k = 3
    · subst hk3
      have key : Hid (goB 3 r = grB r) := by unfold Hid goB; rw [if_neg (by decide), if_pos rfl]
      rw [key.out]
      clear hs hd H1 H2 key
      go_enter Tryz.func331, Tryz.ntmps331
      go_wp2_with (go_at_call 356; refine (H3.out _).mono ?_; rintro e wz ⟨rfl, hwz⟩; have hwz := hwz.symm; subst hwz)
      go_ret
      exact ⟨rfl, rfl⟩
    · have hk4 : (k == 3) = false := by simp [hk3]
      obtain ⟨b2, e2⟩ : ∃ b, Hid (dgB r = b) := ⟨_, rfl⟩
      have G2 := hd b2 e2
      have key : Hid (goB k r = (b2 || decide (r = 46) || decide (r = 47))) := by unfold Hid goB; rw [if_neg hk, if_neg hk3, e2.out]
      rw [key.out]
      clear hs hd H1 H2 H3 e2 key
      have kk : r = 46 ∨ r = 47 ∨ (¬ r = 46 ∧ ¬ r = 47) := by omega
      cases b2 <;> rcases kk with rfl | rfl | ⟨h1, h2⟩
      all_goals
        go_enter Tryz.func331, Tryz.ntmps331
        go_wp2_with (go_at_call 355; refine (G2.out _).mono ?_; rintro e wz ⟨rfl, hwz⟩; have hwz := hwz.symm; subst hwz)
        go_ret
        exact ⟨by simp_all, rfl⟩
/-- The language's own words. -/
def wordsL : List (List UInt8) := [[108, 101, 116], [97, 108, 108, 111, 119], [100, 101, 110, 121], [119, 104, 101, 110], [97, 110, 100], [111, 114], [110, 111, 116], [116, 114, 117, 101], [102, 97, 108, 115, 101], [105, 110], [97, 100, 100, 114], [112, 111, 114, 116], [109, 101, 116, 104, 111, 100], [112, 97, 116, 104], [104, 101, 97, 100, 101, 114], [104, 97, 115]]
def wdB (s : List UInt8) : Bool := wordsL.contains s
set_option maxHeartbeats 4000000 in
theorem isWord_any (s : List UInt8) (w : World) : Calls Tryz.prog 329 #[.string ⟨s.toArray⟩] w fun e w' => e = .returned (.bool (wdB s)) ∧ w' = w := by
  cases hb : wdB s with
  | true =>
    have hm : s ∈ wordsL := by simpa [wdB] using hb
    simp only [wordsL, List.mem_cons, List.not_mem_nil, or_false] at hm
    clear hb
    rcases hm with rfl | rfl | rfl | rfl | rfl | rfl | rfl | rfl | rfl | rfl | rfl | rfl | rfl | rfl | rfl | rfl
    all_goals
      go_enter Tryz.func329, Tryz.ntmps329
      go_wp2
      go_ret
      exact ⟨rfl, rfl⟩
  | false =>
    have hm : ∀ t ∈ wordsL, ¬ s = t := fun t ht e => by
      rw [wdB, e] at hb
      simp [ht] at hb
    simp only [wordsL, List.mem_cons, List.not_mem_nil, or_false, forall_eq_or_imp, forall_eq] at hm
    clear hb
    obtain ⟨h1, h2, h3, h4, h5, h6, h7, h8, h9, h10, h11, h12, h13, h14, h15, h16⟩ := hm
    have g1 : (s == [108, 101, 116]) = false := by simpa using h1
    have g2 : (s == [97, 108, 108, 111, 119]) = false := by simpa using h2
    have g3 : (s == [100, 101, 110, 121]) = false := by simpa using h3
    have g4 : (s == [119, 104, 101, 110]) = false := by simpa using h4
    have g5 : (s == [97, 110, 100]) = false := by simpa using h5
    have g6 : (s == [111, 114]) = false := by simpa using h6
    have g7 : (s == [110, 111, 116]) = false := by simpa using h7
    have g8 : (s == [116, 114, 117, 101]) = false := by simpa using h8
    have g9 : (s == [102, 97, 108, 115, 101]) = false := by simpa using h9
    have g10 : (s == [105, 110]) = false := by simpa using h10
    have g11 : (s == [97, 100, 100, 114]) = false := by simpa using h11
    have g12 : (s == [112, 111, 114, 116]) = false := by simpa using h12
    have g13 : (s == [109, 101, 116, 104, 111, 100]) = false := by simpa using h13
    have g14 : (s == [112, 97, 116, 104]) = false := by simpa using h14
    have g15 : (s == [104, 101, 97, 100, 101, 114]) = false := by simpa using h15
    have g16 : (s == [104, 97, 115]) = false := by simpa using h16
    clear h1 h2 h3 h4 h5 h6 h7 h8 h9 h10 h11 h12 h13 h14 h15 h16
    go_enter Tryz.func329, Tryz.ntmps329
    go_wp2
    go_ret
    exact ⟨rfl, rfl⟩
end Go.Proofs.YthgikaklcglpiaaGreatDoor.L9
