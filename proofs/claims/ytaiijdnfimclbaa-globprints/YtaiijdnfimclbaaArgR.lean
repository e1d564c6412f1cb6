/-
  A list of spans that came in as an argument lies in memory as the walks ask it. Condition: the form's own reach.
-/
import Derived.Test.YtaiijdnfimclbaaPta
import Derived.Deep.Slices
import Derived.SizedLaws
namespace Go.Proofs.Ytaiijdnfimclbaa
open Go.RowKit Go.Deep

theorem weightsAll_mem {H : Type} {P : Program} {e : TypeId} {l : List (DataW H)} {d : DataW H} (hd : d ∈ l) : ∀ n ∈ d.weights P e, n ∈ DataW.weightsAll P e l := by
  induction l with
  | nil => cases hd
  | cons x l ih =>
    intro n hn
    rw [DataW.weightsAll, List.mem_append]
    rcases List.mem_cons.1 hd with rfl | h
    · exact .inl hn
    · exact .inr (ih h n hn)
theorem Try.cells59 : Try.prog.cellsOf 59 = 2 := by kernel_rfl
theorem Try.bytes59 : Try.prog.bytesOf 59 = 16 := by kernel_rfl
theorem Try.cells3 : Try.prog.cellsOf 3 = 1 := by kernel_rfl
theorem two {α : Type} (l : List α) (h : l.length = 2) : ∃ a b, l = [a, b] := by
  match l, h with
  | [a, b], _ => exact ⟨a, b, rfl⟩

/-- One span, read. -/
theorem span_read {H : Type} {enc : TypeId × Value → H} {W : World} {base n : Nat} {spare : Nat → Bool} {held : Bool} {a : Addr} {i : Nat} {cs : List Value} {x : DataW H × List MemPlace}
    (h1 : W.cells? base (a.add (i * 2)) 2 = some cs) (h2 : DataW.trod enc Try.prog W base spare held n 59 cs = some x) :
    ∃ s : Spn, W.cell? (a.add (i * 2)) = some (.int .i64 s.1) ∧ W.cell? (a.add (i * 2 + 1)) = some (.int .i64 s.2) := by
  obtain ⟨_, hlen, hcell⟩ := World.cells?_some h1
  obtain ⟨xs, k, _, hxy, _, hxl, hf⟩ := DataW.trod_struct Try.underlying59 h2
  obtain ⟨v0, v1, rfl⟩ := two cs hlen
  obtain ⟨y0, y1, rfl⟩ := two xs hxl
  have g0 := hf 0 _ rfl
  have g1 := hf 1 _ rfl
  simp [Try.cells3] at g0 g1
  obtain ⟨n0, e0, f0, w0⟩ := DataW.trod_int Try.underlying3 g0
  obtain ⟨n1, e1, f1, w1⟩ := DataW.trod_int Try.underlying3 g1
  simp only [List.cons.injEq, and_true] at e0 e1
  subst e0 e1
  have c0 := hcell 0 (by decide)
  have c1 := hcell 1 (by decide)
  rw [add_add] at c0 c1
  exact ⟨(n0, n1), by simpa using c0, by simpa using c1⟩
theorem choose_list {p : Nat → Spn → Prop} : ∀ n, (∀ i, i < n → ∃ s, p i s) → ∃ L : List Spn, L.length = n ∧ ∀ i, i < n → p i (L.getD i (0, 0))
  | 0, _ => ⟨[], rfl, fun i hi => absurd hi (Nat.not_lt_zero i)⟩
  | n + 1, h => by
    obtain ⟨L, h1, h2⟩ := choose_list n (fun i hi => h i (by omega))
    obtain ⟨s, hs⟩ := h n (by omega)
    refine ⟨L ++ [s], by simp [h1], fun i hi => ?_⟩
    by_cases hn : i < n
    · have := h2 i hn
      simpa [List.getD_eq_getElem?_getD, List.getElem?_append, h1, hn] using this
    · have : i = n := by omega
      subst this
      subst h1
      simpa [List.getD_eq_getElem?_getD] using hs

/-- A list that came in. -/
theorem spans_open {H : Type} {enc : TypeId × Value → H} {W : World} {fuel : Nat} {a0 : Option Addr} {len cap : Nat} {d : DataW H} {p : List MemPlace}
    (hf : DataW.trod enc Try.prog W 0 (fun _ => true) true fuel 42 [.slice a0 len cap] = some (d, p)) (hw : ∀ k ∈ d.weights Try.prog 42, k ≤ reachBytes) : ∃ L : List Spn, L.length = len ∧ len ≤ cap ∧ len ≤ 140737488351232 ∧ SpAt W a0 L := by
  rcases open_slice Try.underlying42 hf with ⟨hcs, _⟩ | ⟨a, l, c, m, n, D, Pl, hcs, _, hl, hm, hmm, hx, hat⟩
  · injection hcs with hv
    injection hv with e1 e2 e3
    subst e2 e3
    exact ⟨[], rfl, Nat.le_refl _, by omega, .inl rfl⟩
  · injection hcs with hv
    injection hv with e1 e2 e3
    subst e1 e2 e3
    simp only [if_true] at hmm
    subst hmm
    simp only [Prod.mk.injEq] at hx
    obtain ⟨hd, hp⟩ := hx
    have hcap : (len + (m - len)) * 16 ≤ reachBytes := by
      refine hw _ ?_
      rw [hd]
      simp [DataW.weights, Try.underlying42, Try.bytes59]
    have hlen : len ≤ 140737488351232 := by simp only [reachBytes] at hcap; omega
    by_cases h0 : len = 0
    · subst h0
      exact ⟨[], rfl, hl, by omega, .inl rfl⟩
    have each : ∀ i, i < len → ∃ s : Spn, W.cell? (a.add (i * 2)) = some (.int .i64 s.1) ∧ W.cell? (a.add (i * 2 + 1)) = some (.int .i64 s.2) := by
      intro i hi
      obtain ⟨cs', g1, g2⟩ := hat i (by omega)
      rw [Try.cells59] at g1
      exact span_read g1 g2
    obtain ⟨L, hL, hp'⟩ := choose_list len each
    obtain ⟨b, off, spot⟩ := a
    have hz := (hp' 0 (by omega)).1
    have hspot : spot = none := by simpa [Addr.add] using World.cell?_spot hz
    subst hspot
    refine ⟨L, hL, hl, hlen, .inr ⟨b, off, rfl, World.block_lt_of_cell? W _ (by simpa [Addr.add] using hz), fun i hi => ?_⟩⟩
    obtain ⟨q0, q1⟩ := hp' i (by omega)
    rw [addr_add] at q0 q1
    exact ⟨q0, q1⟩
theorem Try.cells44 : Try.prog.cellsOf 44 = 4 := by kernel_rfl
theorem Try.bytes44 : Try.prog.bytesOf 44 = 48 := by kernel_rfl
theorem Try.cells42 : Try.prog.cellsOf 42 = 1 := by kernel_rfl
theorem Try.cells4' : Try.prog.cellsOf 4 = 1 := by kernel_rfl
theorem four {α : Type} (l : List α) (h : l.length = 4) : ∃ a b c d, l = [a, b, c, d] := by
  match l, h with
  | [a, b, c, d], _ => exact ⟨a, b, c, d, rfl⟩
/-- One piece, read. -/
theorem piece_read {H : Type} {enc : TypeId × Value → H} {W : World} {n : Nat} {a : Addr} {i : Nat} {cs : List Value} {x : DataW H × List MemPlace}
    (h1 : W.cells? 0 (a.add (i * 4)) 4 = some cs) (h2 : DataW.trod enc Try.prog W 0 (fun _ => true) true n 44 cs = some x) (hw : ∀ k ∈ x.1.weights Try.prog 44, k ≤ reachBytes) :
    ∃ d : PD, W.cell? (a.add (i * 4)) = some (.int .i64 d.p.kind) ∧ W.cell? (a.add (i * 4 + 1)) = some (.int .i64 d.p.b) ∧ W.cell? (a.add (i * 4 + 2)) = some (.bool d.p.no) ∧ W.cell? (a.add (i * 4 + 3)) = some (.slice d.so d.p.set.length d.sc) ∧ SpAt W d.so d.p.set := by
  obtain ⟨_, hlen, hcell⟩ := World.cells?_some h1
  obtain ⟨xs, k, _, hxy, _, hxl, hf⟩ := DataW.trod_struct Try.underlying44 h2
  obtain ⟨v0, v1, v2, v3, rfl⟩ := four cs hlen
  obtain ⟨y0, y1, y2, y3, rfl⟩ := four xs hxl
  have g0 := hf 0 _ rfl
  have g1 := hf 1 _ rfl
  have g2 := hf 2 _ rfl
  have g3 := hf 3 _ rfl
  simp [Try.cells3, Try.cells4', Try.cells42] at g0 g1 g2 g3
  obtain ⟨n0, e0, f0, w0⟩ := DataW.trod_int Try.underlying3 g0
  obtain ⟨n1, e1, f1, w1⟩ := DataW.trod_int Try.underlying3 g1
  obtain ⟨b2, e2, f2⟩ := DataW.trod_bool Try.underlying4 g2
  simp only [List.cons.injEq, and_true] at e0 e1 e2
  subst e0 e1 e2
  obtain ⟨ai, li, ci, rfl⟩ : ∃ ai li ci, v3 = .slice ai li ci := by
    rcases open_slice Try.underlying42 g3 with ⟨hcs, _⟩ | ⟨a', l', c', _, _, _, _, hcs, _⟩
    · injection hcs with hv; exact ⟨none, 0, 0, hv⟩
    · injection hcs with hv; exact ⟨_, l', c', hv⟩
  obtain ⟨L, e3, _, _, hs⟩ := spans_open (d := y3.1) (p := y3.2) g3 (fun k hk => hw k (by
    rw [hxy]
    simp [DataW.weights, Try.underlying44]
    exact DataW.weights_mem_each (j := 3) (t := 42) rfl rfl k hk))
  subst e3
  have c0 := hcell 0 (by decide)
  have c1 := hcell 1 (by decide)
  have c2 := hcell 2 (by decide)
  have c3 := hcell 3 (by decide)
  rw [add_add] at c0 c1 c2 c3
  exact ⟨⟨⟨n0, n1, b2, L⟩, ai, ci⟩, by simpa using c0, by simpa using c1, by simpa using c2, by simpa using c3, hs⟩
def zPD : PD := ⟨zPc, none, 0⟩
theorem choose_pd {p : Nat → PD → Prop} : ∀ n, (∀ i, i < n → ∃ s, p i s) → ∃ L : List PD, L.length = n ∧ ∀ i (h : i < L.length), p i L[i]
  | 0, _ => ⟨[], rfl, fun i hi => absurd hi (Nat.not_lt_zero i)⟩
  | n + 1, h => by
    obtain ⟨L, h1, h2⟩ := choose_pd n (fun i hi => h i (by omega))
    obtain ⟨s, hs⟩ := h n (by omega)
    refine ⟨L ++ [s], by simp [h1], fun i hi => ?_⟩
    by_cases hn : i < L.length
    · rw [List.getElem_append_left hn]; exact h2 i hn
    · have : i = L.length := by rw [List.length_append, List.length_singleton] at hi; omega
      subst this
      rw [List.getElem_append_right (Nat.le_refl _)]
      simp only [Nat.sub_self, List.getElem_cons_zero]
      rw [h1]; exact hs
/-- Pieces that came in. -/
theorem pieces_open {H : Type} {enc : TypeId × Value → H} {W : World} {fuel : Nat} {a0 : Option Addr} {len cap : Nat} {d : DataW H} {p : List MemPlace}
    (hf : DataW.trod enc Try.prog W 0 (fun _ => true) true fuel 29 [.slice a0 len cap] = some (d, p)) (hw : ∀ k ∈ d.weights Try.prog 29, k ≤ reachBytes) : ∃ D : List PD, D.length = len ∧ len ≤ cap ∧ len ≤ 140737488351232 ∧ PcAt W a0 D := by
  rcases open_slice Try.underlying29 hf with ⟨hcs, _⟩ | ⟨a, l, c, m, n, V, Pl, hcs, _, hl, hm, hmm, hx, hat⟩
  · injection hcs with hv
    injection hv with e1 e2 e3
    subst e2 e3
    exact ⟨[], rfl, Nat.le_refl _, by omega, .inl rfl⟩
  · injection hcs with hv
    injection hv with e1 e2 e3
    subst e1 e2 e3
    simp only [if_true] at hmm
    subst hmm
    simp only [Prod.mk.injEq] at hx
    obtain ⟨hd, hp⟩ := hx
    have hcap : (len + (m - len)) * 48 ≤ reachBytes := by
      refine hw _ ?_
      rw [hd]
      simp [DataW.weights, Try.underlying29, Try.bytes44]
    have hlen : len ≤ 140737488351232 := by simp only [reachBytes] at hcap; omega
    by_cases h0 : len = 0
    · subst h0
      exact ⟨[], rfl, hl, by omega, .inl rfl⟩
    have each : ∀ i, i < len → ∃ d : PD, W.cell? (a.add (i * 4)) = some (.int .i64 d.p.kind) ∧ W.cell? (a.add (i * 4 + 1)) = some (.int .i64 d.p.b) ∧ W.cell? (a.add (i * 4 + 2)) = some (.bool d.p.no) ∧ W.cell? (a.add (i * 4 + 3)) = some (.slice d.so d.p.set.length d.sc) ∧ SpAt W d.so d.p.set := by
      intro i hi
      obtain ⟨cs', g1, g2⟩ := hat i (by omega)
      rw [Try.cells44] at g1
      refine piece_read g1 g2 (fun k hk => hw k ?_)
      rw [hd]
      simp only [DataW.weights, Try.underlying29, List.mem_cons, List.mem_append]
      exact .inr (.inl (weightsAll_mem (List.mem_map.2 ⟨i, List.mem_range.2 hi, rfl⟩) k hk))
    obtain ⟨L, hL, hp'⟩ := choose_pd len each
    obtain ⟨b, off, spot⟩ := a
    have hz := (hp' 0 (by omega)).1
    have hspot : spot = none := by simpa [Addr.add] using World.cell?_spot hz
    subst hspot
    refine ⟨L, hL, hl, hlen, .inr ⟨b, off, rfl, World.block_lt_of_cell? W _ (by simpa [Addr.add] using hz), fun i hi => ?_⟩⟩
    obtain ⟨q0, q1, q2, q3, q4⟩ := hp' i hi
    rw [addr_add] at q0 q1 q2 q3
    exact ⟨q0, q1, q2, q3, q4⟩
end Go.Proofs.Ytaiijdnfimclbaa
