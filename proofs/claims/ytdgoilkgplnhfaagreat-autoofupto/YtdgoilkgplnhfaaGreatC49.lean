/-
  A list of spans that came in as an argument lies in memory as the walks ask it. Condition: the form's own bulk.
-/
import Derived.Test.YtdgoilkgplnhfaaGreatRows
import Derived.Test.YtdgoilkgplnhfaaGreatC34
import Derived.Deep.Slices
import Derived.SizedLaws
namespace Go.Proofs.YtdgoilkgplnhfaaGreat
open Go.RowKit Go.Deep
theorem bulk_pos {H : Type} (d : DataW H) : 1 ≤ Rows.uptoBulk d := by
 cases d with
 | lit l => cases l <;> simp [Rows.uptoBulk]
 | nil => simp [Rows.uptoBulk]
 | ptr d => simp [Rows.uptoBulk]
 | slice a b => simp [Rows.uptoBulk]
 | agg p => simp [Rows.uptoBulk]
 | iface t d => simp [Rows.uptoBulk]
 | map e => simp [Rows.uptoBulk]
 | held h => simp [Rows.uptoBulk]
theorem bulk_len {H : Type} : ∀ l : List (DataW H), l.length ≤ Rows.uptoBulkAll l
 | [] => Nat.zero_le _
 | d :: l => by
   have h1 := bulk_pos d
   have h2 := bulk_len l
   rw [Rows.uptoBulkAll, List.length_cons]
   omega
theorem bulk_mem {H : Type} {d : DataW H} : ∀ {l : List (DataW H)}, d ∈ l → Rows.uptoBulk d ≤ Rows.uptoBulkAll l
 | x :: l, h => by
   rw [Rows.uptoBulkAll]
   rcases List.mem_cons.1 h with rfl | h
   · omega
   · have := bulk_mem h
     omega
theorem Tryz.cells175 : Tryz.prog.cellsOf 175 = 2 := by kernel_rfl
theorem Tryz.cells3 : Tryz.prog.cellsOf 3 = 1 := by kernel_rfl
theorem two {α : Type} (l : List α) (h : l.length = 2) : ∃ a b, l = [a, b] := by
 match l, h with
 | [a, b], _ => exact ⟨a, b, rfl⟩
theorem span_read {H : Type} {enc : TypeId × Value → H} {W : World} {base n : Nat} {spare : Nat → Bool} {held : Bool} {a : Addr} {i : Nat} {cs : List Value} {x : DataW H × List MemPlace}
 (h1 : W.cells? base (a.add (i * 2)) 2 = some cs) (h2 : DataW.trod enc Tryz.prog W base spare held n 175 cs = some x) :
 ∃ s : Spn, W.cell? (a.add (i * 2)) = some (.int .i64 s.1) ∧ W.cell? (a.add (i * 2 + 1)) = some (.int .i64 s.2) := by
 obtain ⟨_, hlen, hcell⟩ := World.cells?_some h1
 obtain ⟨xs, k, _, hxy, _, hxl, hf⟩ := DataW.trod_struct Tryz.underlying175 h2
 obtain ⟨v0, v1, rfl⟩ := two cs hlen
 obtain ⟨y0, y1, rfl⟩ := two xs hxl
 have g0 := hf 0 _ rfl
 have g1 := hf 1 _ rfl
 simp [Tryz.cells3] at g0 g1
 obtain ⟨n0, e0, f0, w0⟩ := DataW.trod_int Tryz.underlying3 g0
 obtain ⟨n1, e1, f1, w1⟩ := DataW.trod_int Tryz.underlying3 g1
 simp only [List.cons.injEq, and_true] at e0 e1
 subst e0 e1
 have c0 := hcell 0 (by decide)
 have c1 := hcell 1 (by decide)
 rw [add_add] at c0 c1
 exact ⟨(n0, n1), by simpa using c0, by simpa using c1⟩
theorem choose_list {p : Nat → Spn → Prop} : ∀ n, (∀ i, i < n → ∃ s, p i s) → ∃ L : List Spn, L.length = n ∧ ∀ i, i < n → p i (L.getD i (0, 0))
 | 0, _ => ⟨[], rfl, fun i hi => absurd hi (Nat.not_lt_zero i)⟩
 | n + 1, h => by
   obtain ⟨L, h1, h2⟩ := choose_list n (fun i hi => h i (by omega))
   obtain ⟨s, hs⟩ := h n (by omega)
   refine ⟨L ++ [s], by simp [h1], fun i hi => ?_⟩
   by_cases hn : i < n
   · have := h2 i hn
     simpa [List.getD_eq_getElem?_getD, List.getElem?_append, h1, hn] using this
   · have : i = n := by omega
     subst this
     subst h1
     simpa [List.getD_eq_getElem?_getD] using hs
theorem spans_open {H : Type} {enc : TypeId × Value → H} {W : World} {fuel : Nat} {a0 : Option Addr} {len cap : Nat} {d : DataW H} {p : List MemPlace}
 (hf : DataW.trod enc Tryz.prog W 0 (fun _ => true) true fuel 94 [.slice a0 len cap] = some (d, p)) (hw : Rows.uptoBulk d ≤ 1048576) : ∃ L : List Spn, L.length = len ∧ len ≤ cap ∧ len ≤ 1048576 ∧ SpAt W a0 L := by
 rcases open_slice Tryz.underlying94 hf with ⟨hcs, _⟩ | ⟨a, l, c, m, n, D, Pl, hcs, _, hl, hm, hmm, hx, hat⟩
 · injection hcs with hv
   injection hv with e1 e2 e3
   subst e2 e3
   exact ⟨[], rfl, Nat.le_refl _, by omega, .inl rfl⟩
 · injection hcs with hv
   injection hv with e1 e2 e3
   subst e1 e2 e3
   simp only [if_true] at hmm
   subst hmm
   simp only [Prod.mk.injEq] at hx
   obtain ⟨hd, hp⟩ := hx
   have hlen : len ≤ 1048576 := by
    rw [hd] at hw
    simp only [Rows.uptoBulk] at hw
    have h9 := bulk_len ((List.range len).map D)
    rw [List.length_map, List.length_range] at h9
    omega
   by_cases h0 : len = 0
   · subst h0
     exact ⟨[], rfl, hl, by omega, .inl rfl⟩
   have each : ∀ i, i < len → ∃ s : Spn, W.cell? (a.add (i * 2)) = some (.int .i64 s.1) ∧ W.cell? (a.add (i * 2 + 1)) = some (.int .i64 s.2) := by
    intro i hi
    obtain ⟨cs', g1, g2⟩ := hat i (by omega)
    rw [Tryz.cells175] at g1
    exact span_read g1 g2
   obtain ⟨L, hL, hp'⟩ := choose_list len each
   obtain ⟨b, off, spot⟩ := a
   have hz := (hp' 0 (by omega)).1
   have hspot : spot = none := by simpa [Addr.add] using World.cell?_spot hz
   subst hspot
   refine ⟨L, hL, hl, hlen, .inr ⟨b, off, rfl, World.block_lt_of_cell? W _ (by simpa [Addr.add] using hz), fun i hi => ?_⟩⟩
   obtain ⟨q0, q1⟩ := hp' i (by omega)
   rw [addr_add] at q0 q1
   exact ⟨q0, q1⟩
theorem Tryz.cells96 : Tryz.prog.cellsOf 96 = 4 := by kernel_rfl
theorem Tryz.cells94 : Tryz.prog.cellsOf 94 = 1 := by kernel_rfl
theorem Tryz.cells4' : Tryz.prog.cellsOf 4 = 1 := by kernel_rfl
theorem four {α : Type} (l : List α) (h : l.length = 4) : ∃ a b c d, l = [a, b, c, d] := by
 match l, h with
 | [a, b, c, d], _ => exact ⟨a, b, c, d, rfl⟩
theorem piece_read {H : Type} {enc : TypeId × Value → H} {W : World} {n : Nat} {a : Addr} {i : Nat} {cs : List Value} {x : DataW H × List MemPlace}
 (h1 : W.cells? 0 (a.add (i * 4)) 4 = some cs) (h2 : DataW.trod enc Tryz.prog W 0 (fun _ => true) true n 96 cs = some x) (hw : Rows.uptoBulk x.1 ≤ 1048576) :
 ∃ d : PD, W.cell? (a.add (i * 4)) = some (.int .i64 d.p.kind) ∧ W.cell? (a.add (i * 4 + 1)) = some (.int .i64 d.p.b) ∧ W.cell? (a.add (i * 4 + 2)) = some (.bool d.p.no) ∧ W.cell? (a.add (i * 4 + 3)) = some (.slice d.so d.p.set.length d.sc) ∧ SpAt W d.so d.p.set ∧ d.p.set.length ≤ 1048576 := by
 obtain ⟨_, hlen, hcell⟩ := World.cells?_some h1
 obtain ⟨xs, k, _, hxy, _, hxl, hf⟩ := DataW.trod_struct Tryz.underlying96 h2
 obtain ⟨v0, v1, v2, v3, rfl⟩ := four cs hlen
 obtain ⟨y0, y1, y2, y3, rfl⟩ := four xs hxl
 have g0 := hf 0 _ rfl
 have g1 := hf 1 _ rfl
 have g2 := hf 2 _ rfl
 have g3 := hf 3 _ rfl
 simp [Tryz.cells3, Tryz.cells4', Tryz.cells94] at g0 g1 g2 g3
 obtain ⟨n0, e0, f0, w0⟩ := DataW.trod_int Tryz.underlying3 g0
 obtain ⟨n1, e1, f1, w1⟩ := DataW.trod_int Tryz.underlying3 g1
 obtain ⟨b2, e2, f2⟩ := DataW.trod_bool Tryz.underlying4 g2
 simp only [List.cons.injEq, and_true] at e0 e1 e2
 subst e0 e1 e2
 obtain ⟨ai, li, ci, rfl⟩ : ∃ ai li ci, v3 = .slice ai li ci := by
  rcases open_slice Tryz.underlying94 g3 with ⟨hcs, _⟩ | ⟨a', l', c', _, _, _, _, hcs, _⟩
  · injection hcs with hv; exact ⟨none, 0, 0, hv⟩
  · injection hcs with hv; exact ⟨_, l', c', hv⟩
 have hw3 : Rows.uptoBulk y3.1 ≤ 1048576 := by
  simp only [hxy, Rows.uptoBulk, List.map_cons, List.map_nil, Rows.uptoBulkAll] at hw
  omega
 obtain ⟨L, e3, _, hl3, hs⟩ := spans_open (d := y3.1) (p := y3.2) g3 hw3
 subst e3
 have c0 := hcell 0 (by decide)
 have c1 := hcell 1 (by decide)
 have c2 := hcell 2 (by decide)
 have c3 := hcell 3 (by decide)
 rw [add_add] at c0 c1 c2 c3
 exact ⟨⟨⟨n0, n1, b2, L⟩, ai, ci⟩, by simpa using c0, by simpa using c1, by simpa using c2, by simpa using c3, hs, by omega⟩
theorem choose_pd {p : Nat → PD → Prop} : ∀ n, (∀ i, i < n → ∃ s, p i s) → ∃ L : List PD, L.length = n ∧ ∀ i (h : i < L.length), p i L[i]
 | 0, _ => ⟨[], rfl, fun i hi => absurd hi (Nat.not_lt_zero i)⟩
 | n + 1, h => by
   obtain ⟨L, h1, h2⟩ := choose_pd n (fun i hi => h i (by omega))
   obtain ⟨s, hs⟩ := h n (by omega)
   refine ⟨L ++ [s], by simp [h1], fun i hi => ?_⟩
   by_cases hn : i < L.length
   · rw [List.getElem_append_left hn]; exact h2 i hn
   · have : i = L.length := by rw [List.length_append, List.length_singleton] at hi; omega
     subst this
     rw [List.getElem_append_right (Nat.le_refl _)]
     simp only [Nat.sub_self, List.getElem_cons_zero]
     rw [h1]; exact hs
theorem pieces_open {H : Type} {enc : TypeId × Value → H} {W : World} {fuel : Nat} {a0 : Option Addr} {len cap : Nat} {d : DataW H} {p : List MemPlace}
 (hf : DataW.trod enc Tryz.prog W 0 (fun _ => true) true fuel 39 [.slice a0 len cap] = some (d, p)) (hw : Rows.uptoBulk d ≤ 1048576) : ∃ D : List PD, D.length = len ∧ len ≤ cap ∧ len ≤ 1048576 ∧ PcAt W a0 D ∧ ∀ d ∈ D, d.p.set.length ≤ 1048576 := by
 rcases open_slice Tryz.underlying39 hf with ⟨hcs, _⟩ | ⟨a, l, c, m, n, V, Pl, hcs, _, hl, hm, hmm, hx, hat⟩
 · injection hcs with hv
   injection hv with e1 e2 e3
   subst e2 e3
   exact ⟨[], rfl, Nat.le_refl _, by omega, .inl rfl, fun d hd => by cases hd⟩
 · injection hcs with hv
   injection hv with e1 e2 e3
   subst e1 e2 e3
   simp only [if_true] at hmm
   subst hmm
   simp only [Prod.mk.injEq] at hx
   obtain ⟨hd, hp⟩ := hx
   have hlen : len ≤ 1048576 := by
    rw [hd] at hw
    simp only [Rows.uptoBulk] at hw
    have h9 := bulk_len ((List.range len).map V)
    rw [List.length_map, List.length_range] at h9
    omega
   by_cases h0 : len = 0
   · subst h0
     exact ⟨[], rfl, hl, by omega, .inl rfl, fun d hd => by cases hd⟩
   have each : ∀ i, i < len → ∃ d : PD, W.cell? (a.add (i * 4)) = some (.int .i64 d.p.kind) ∧ W.cell? (a.add (i * 4 + 1)) = some (.int .i64 d.p.b) ∧ W.cell? (a.add (i * 4 + 2)) = some (.bool d.p.no) ∧ W.cell? (a.add (i * 4 + 3)) = some (.slice d.so d.p.set.length d.sc) ∧ SpAt W d.so d.p.set ∧ d.p.set.length ≤ 1048576 := by
    intro i hi
    obtain ⟨cs', g1, g2⟩ := hat i (by omega)
    rw [Tryz.cells96] at g1
    refine piece_read g1 g2 ?_
    have h9 := bulk_mem (List.mem_map.2 ⟨i, List.mem_range.2 hi, rfl⟩ : V i ∈ (List.range len).map V)
    rw [hd] at hw
    simp only [Rows.uptoBulk] at hw
    show Rows.uptoBulk (V i) ≤ 1048576
    omega
   obtain ⟨L, hL, hp'⟩ := choose_pd len each
   obtain ⟨b, off, spot⟩ := a
   have hz := (hp' 0 (by omega)).1
   have hspot : spot = none := by simpa [Addr.add] using World.cell?_spot hz
   subst hspot
   refine ⟨L, hL, hl, hlen, .inr ⟨b, off, rfl, World.block_lt_of_cell? W _ (by simpa [Addr.add] using hz), fun i hi => ?_⟩, fun d hd => ?_⟩
   · obtain ⟨q0, q1, q2, q3, q4, _⟩ := hp' i hi
     rw [addr_add] at q0 q1 q2 q3
     exact ⟨q0, q1, q2, q3, q4⟩
   · obtain ⟨i, hi, rfl⟩ := List.mem_iff_getElem.1 hd
     exact (hp' i hi).2.2.2.2.2
end Go.Proofs.YtdgoilkgplnhfaaGreat
