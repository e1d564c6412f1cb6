/-
  A script that came in as an argument lies in memory as the walks ask it. Condition: the form's own reach.
-/
import Derived.Test.YtnfdjbaafiifnaaP51
import Derived.Test.YtnfdjbaafiifnaaP48
namespace Go.Proofs.Ytnfdjbaafiifnaa
open Go.RowKit Go.Deep

theorem weightsAll_mem {H : Type} {P : Program} {e : TypeId} {l : List (DataW H)} {d : DataW H} (hd : d ∈ l) : ∀ n ∈ d.weights P e, n ∈ DataW.weightsAll P e l := by
  induction l with
  | nil => cases hd
  | cons x l ih =>
    intro n hn
    rw [DataW.weightsAll, List.mem_append]
    rcases List.mem_cons.1 hd with rfl | h
    · exact .inl hn
    · exact .inr (ih h n hn)
theorem Try.bytes3 : Try.prog.bytesOf 3 = 8 := by kernel_rfl
theorem Try.cells46 : Try.prog.cellsOf 46 = 7 := by kernel_rfl
theorem Try.bytes46 : Try.prog.bytesOf 46 = 88 := by kernel_rfl
theorem Try.cells43 : Try.prog.cellsOf 43 = 1 := by kernel_rfl
theorem Try.cells44 : Try.prog.cellsOf 44 = 1 := by kernel_rfl
theorem one_of {α : Type} (l : List α) (h : l.length = 1) : ∃ a, l = [a] := by
  match l, h with
  | [a], _ => exact ⟨a, rfl⟩
theorem six_of {α : Type} (l : List α) (h : l.length = 6) : ∃ a b c d e f, l = [a, b, c, d, e, f] := by
  match l, h with
  | [a, b, c, d, e, f], _ => exact ⟨a, b, c, d, e, f, rfl⟩
theorem seven_of {α : Type} (l : List α) (h : l.length = 7) : ∃ a b c d e f g, l = [a, b, c, d, e, f, g] := by
  match l, h with
  | [a, b, c, d, e, f, g], _ => exact ⟨a, b, c, d, e, f, g, rfl⟩
theorem choose_int {p : Nat → Int → Prop} : ∀ n, (∀ i, i < n → ∃ s, p i s) → ∃ L : List Int, L.length = n ∧ ∀ i, i < n → p i (L.getD i 0)
  | 0, _ => ⟨[], rfl, fun i hi => absurd hi (Nat.not_lt_zero i)⟩
  | n + 1, h => by
    obtain ⟨L, h1, h2⟩ := choose_int n (fun i hi => h i (by omega))
    obtain ⟨s, hs⟩ := h n (by omega)
    refine ⟨L ++ [s], by simp [h1], fun i hi => ?_⟩
    by_cases hn : i < n
    · have := h2 i hn
      simpa [List.getD_eq_getElem?_getD, List.getElem?_append, h1, hn] using this
    · have : i = n := by omega
      subst this
      subst h1
      simpa [List.getD_eq_getElem?_getD] using hs
theorem choose_op {p : Nat → OpZ → Prop} : ∀ n, (∀ i, i < n → ∃ s, p i s) → ∃ L : List OpZ, L.length = n ∧ ∀ i (h : i < L.length), p i L[i]
  | 0, _ => ⟨[], rfl, fun i hi => absurd hi (Nat.not_lt_zero i)⟩
  | n + 1, h => by
    obtain ⟨L, h1, h2⟩ := choose_op n (fun i hi => h i (by omega))
    obtain ⟨s, hs⟩ := h n (by omega)
    refine ⟨L ++ [s], by simp [h1], fun i hi => ?_⟩
    by_cases hn : i < L.length
    · rw [List.getElem_append_left hn]; exact h2 i hn
    · have : i = L.length := by rw [List.length_append, List.length_singleton] at hi; omega
      subst this
      rw [List.getElem_append_right (Nat.le_refl _)]
      simp only [Nat.sub_self, List.getElem_cons_zero]
      rw [h1]; exact hs
/-- Numbers that came in. -/
theorem ints_open43 {H : Type} {enc : TypeId × Value → H} {W : World} {fuel : Nat} {a0 : Option Addr} {len cap : Nat} {d : DataW H} {p : List MemPlace}
    (hf : DataW.trod enc Try.prog W 0 (fun _ => true) true fuel 43 [.slice a0 len cap] = some (d, p)) : ∃ L : List Int, L.length = len ∧ ZAt W a0 L := by
  rcases open_slice Try.underlying43 hf with ⟨hcs, _⟩ | ⟨a, l, c, m, n, V, Pl, hcs, _, hl, hm, hmm, hx, hat⟩
  · injection hcs with hv
    injection hv with e1 e2 e3
    subst e2 e3
    exact ⟨[], rfl, .inl rfl⟩
  · injection hcs with hv
    injection hv with e1 e2 e3
    subst e1 e2 e3
    simp only [if_true] at hmm
    subst hmm
    by_cases h0 : len = 0
    · subst h0
      exact ⟨[], rfl, .inl rfl⟩
    have each : ∀ i, i < len → ∃ z : Int, W.cell? (a.add (i * 1)) = some (.int .i64 z) := by
      intro i hi
      obtain ⟨cs', g1, g2⟩ := hat i (by omega)
      rw [Try.cells3] at g1
      obtain ⟨_, hlen, hcell⟩ := World.cells?_some g1
      obtain ⟨v, rfl⟩ := one_of cs' hlen
      obtain ⟨z, e, _, _⟩ := DataW.trod_int Try.underlying3 g2
      simp only [List.cons.injEq, and_true] at e
      subst e
      have c0 := hcell 0 (by decide)
      rw [add_add] at c0
      exact ⟨z, by simpa using c0⟩
    obtain ⟨L, hL, hp'⟩ := choose_int len each
    obtain ⟨b, off, spot⟩ := a
    have hz := hp' 0 (by omega)
    have hspot : spot = none := by simpa [Addr.add] using World.cell?_spot hz
    subst hspot
    refine ⟨L, hL, .inr ⟨b, off, rfl, World.block_lt_of_cell? W _ (by simpa [Addr.add] using hz), fun i hi => ?_⟩⟩
    have q0 := hp' i (by omega)
    rw [addr_add, Nat.mul_one] at q0
    exact q0
theorem slice_of {H : Type} {enc : TypeId × Value → H} {W : World} {fuel : Nat} {t e : TypeId} {v : Value} {x : DataW H × List MemPlace} (hu : Try.prog.underlying t = some (.slice e)) (hf : DataW.trod enc Try.prog W 0 (fun _ => true) true fuel t [v] = some x) : ∃ ai li ci, v = .slice ai li ci := by
  rcases open_slice hu hf with ⟨hcs, _⟩ | ⟨a', l', c', _, _, _, _, hcs, _⟩
  · injection hcs with hv; exact ⟨none, 0, 0, hv⟩
  · injection hcs with hv; exact ⟨_, l', c', hv⟩
def OpRd (W : World) (a : Addr) (i : Nat) (o : OpZ) : Prop := (W.cell? (a.add (i * 7)) = some (.int .i64 o.kind) ∧ W.cell? (a.add (i * 7 + 1)) = some (.int .i64 o.on) ∧ W.cell? (a.add (i * 7 + 2)) = some (.int .i64 o.n) ∧ W.cell? (a.add (i * 7 + 3)) = some (.int .i64 o.a) ∧ W.cell? (a.add (i * 7 + 4)) = some (.int .i64 o.k) ∧ W.cell? (a.add (i * 7 + 5)) = some (.slice o.la o.L.length o.lc) ∧ W.cell? (a.add (i * 7 + 6)) = some (.slice o.ra o.R.length o.rc)) ∧ ZAt W o.la o.L ∧ RwAt W o.ra o.R ∧ Fit o.on ∧ Fit o.n
/-- One step, read. -/
theorem op_read {H : Type} {enc : TypeId × Value → H} {W : World} {n : Nat} {a : Addr} {i : Nat} {cs : List Value} {x : DataW H × List MemPlace}
    (h1 : W.cells? 0 (a.add (i * 7)) 7 = some cs) (h2 : DataW.trod enc Try.prog W 0 (fun _ => true) true n 46 cs = some x) (hw : ∀ k ∈ x.1.weights Try.prog 46, k ≤ reachBytes) :
    ∃ o : OpZ, OpRd W a i o := by
  obtain ⟨_, hlen, hcell⟩ := World.cells?_some h1
  obtain ⟨xs, k, _, hxy, _, hxl, hf⟩ := DataW.trod_struct Try.underlying46 h2
  obtain ⟨v0, v1, v2, v3, v4, v5, v6, rfl⟩ := seven_of cs hlen
  obtain ⟨y0, y1, y2, y3, y4, y5, rfl⟩ := six_of xs hxl
  have g0 := hf 0 _ rfl
  have g1 := hf 1 _ rfl
  have g2 := hf 2 _ rfl
  have g3 := hf 3 _ rfl
  have g4 := hf 4 _ rfl
  have g5 := hf 5 _ rfl
  simp [Try.cells3, Try.cells42, Try.cells43, Try.cells44] at g0 g1 g2 g3 g4 g5
  obtain ⟨xs', k', _, hxy', _, hxl', hf'⟩ := DataW.trod_struct Try.underlying42 g3
  obtain ⟨z0, z1, rfl⟩ := two xs' hxl'
  have g6 := hf' 0 _ rfl
  have g7 := hf' 1 _ rfl
  simp [Try.cells3] at g6 g7
  obtain ⟨n0, e0, f0, w0⟩ := DataW.trod_int Try.underlying3 g0
  obtain ⟨n1, e1, f1, w1⟩ := DataW.trod_int Try.underlying3 g1
  obtain ⟨n2, e2, f2, w2⟩ := DataW.trod_int Try.underlying3 g2
  obtain ⟨n3, e3, f3, w3⟩ := DataW.trod_int Try.underlying3 g6
  obtain ⟨n4, e4, f4, w4⟩ := DataW.trod_int Try.underlying3 g7
  simp only [List.cons.injEq, and_true] at e0 e1 e2 e3 e4
  subst e0 e1 e2 e3 e4
  obtain ⟨ai, li, ci, rfl⟩ := slice_of Try.underlying43 g4
  obtain ⟨aj, lj, cj, rfl⟩ := slice_of Try.underlying44 g5
  obtain ⟨L, e5, hz⟩ := ints_open43 (d := y4.1) (p := y4.2) g4
  obtain ⟨R, e6, _, _, _, hr⟩ := rows_open65 (d := y5.1) (p := y5.2) g5 (fun k hk => hw k (by
    rw [hxy]
    simp [DataW.weights, Try.underlying46]
    exact DataW.weights_mem_each (j := 5) (t := 44) rfl rfl k hk))
  subst e5 e6
  have c0 := hcell 0 (by decide)
  have c1 := hcell 1 (by decide)
  have c2 := hcell 2 (by decide)
  have c3 := hcell 3 (by decide)
  have c4 := hcell 4 (by decide)
  have c5 := hcell 5 (by decide)
  have c6 := hcell 6 (by decide)
  rw [add_add] at c0 c1 c2 c3 c4 c5 c6
  exact ⟨⟨n0, n1, n2, n3, n4, ai, L, ci, aj, R, cj⟩, ⟨by simpa using c0, by simpa using c1, by simpa using c2, by simpa using c3, by simpa using c4, by simpa using c5, by simpa using c6⟩, hz, hr, fit_of_wf w1, fit_of_wf w2⟩
/-- A script that came in. -/
theorem script_open {H : Type} {enc : TypeId × Value → H} {W : World} {fuel : Nat} {a0 : Option Addr} {len cap : Nat} {d : DataW H} {p : List MemPlace}
    (hf : DataW.trod enc Try.prog W 0 (fun _ => true) true fuel 22 [.slice a0 len cap] = some (d, p)) (hw : ∀ k ∈ d.weights Try.prog 22, k ≤ reachBytes) : ∃ S : List OpZ, S.length = len ∧ len ≤ 140737488351232 ∧ OpAt W a0 S := by
  rcases open_slice Try.underlying22 hf with ⟨hcs, _⟩ | ⟨a, l, c, m, n, V, Pl, hcs, _, hl, hm, hmm, hx, hat⟩
  · injection hcs with hv
    injection hv with e1 e2 e3
    subst e2 e3
    exact ⟨[], rfl, by omega, .inl rfl⟩
  · injection hcs with hv
    injection hv with e1 e2 e3
    subst e1 e2 e3
    simp only [if_true] at hmm
    subst hmm
    simp only [Prod.mk.injEq] at hx
    obtain ⟨hd, hp⟩ := hx
    have hcap : (len + (m - len)) * 88 ≤ reachBytes := by
      refine hw _ ?_
      rw [hd]
      simp [DataW.weights, Try.underlying22, Try.bytes46]
    have hlen : len ≤ 140737488351232 := by simp only [reachBytes] at hcap; omega
    by_cases h0 : len = 0
    · subst h0
      exact ⟨[], rfl, by omega, .inl rfl⟩
    have each : ∀ i, i < len → ∃ o : OpZ, OpRd W a i o := fun i hi => by
      obtain ⟨cs', g1, g2⟩ := hat i (by omega)
      rw [Try.cells46] at g1
      refine op_read g1 g2 (fun k hk => hw k ?_)
      rw [hd]
      simp only [DataW.weights, Try.underlying22, List.mem_cons, List.mem_append]
      exact .inr (.inl (weightsAll_mem (List.mem_map.2 ⟨i, List.mem_range.2 hi, rfl⟩) k hk))
    obtain ⟨L, hL, hp'⟩ := choose_op len each
    obtain ⟨b, off, spot⟩ := a
    have hz := (hp' 0 (by omega)).1.1
    have hspot : spot = none := by simpa [Addr.add] using World.cell?_spot hz
    subst hspot
    refine ⟨L, hL, hlen, .inr ⟨b, off, rfl, World.block_lt_of_cell? W _ (by simpa [Addr.add] using hz), fun i hi => ?_⟩⟩
    obtain ⟨⟨q0, q1, q2, q3, q4, q5, q6⟩, r1, r2, r3, r4⟩ := hp' i hi
    rw [addr_add] at q0 q1 q2 q3 q4 q5 q6
    exact ⟨⟨q0, q1, q2, q3, q4, q5, q6⟩, r1, r2, r3, r4⟩
end Go.Proofs.Ytnfdjbaafiifnaa
