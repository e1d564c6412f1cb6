/-
  What came in as an argument lies in memory as the walks ask it. Condition: the form's own bulk.
-/
import Derived.Test.YtkklphmhbbjmcaaRows
import Derived.Test.YtkklphmhbbjmcaaPl0
import Derived.Deep.Slices
import Derived.SizedLaws
namespace Go.Proofs.Ytkklphmhbbjmcaa
open Go.RowKit Go.Deep

theorem bulk_pos {H : Type} (d : DataW H) : 1 ≤ Rows.uptoBulk d := by
  cases d with
  | lit l => cases l <;> simp [Rows.uptoBulk]
  | nil => simp [Rows.uptoBulk]
  | ptr d => simp [Rows.uptoBulk]
  | slice a b => simp [Rows.uptoBulk]
  | agg p => simp [Rows.uptoBulk]
  | iface t d => simp [Rows.uptoBulk]
  | map e => simp [Rows.uptoBulk]
  | held h => simp [Rows.uptoBulk]
theorem bulk_len {H : Type} : ∀ l : List (DataW H), l.length ≤ Rows.uptoBulkAll l
  | [] => Nat.zero_le _
  | d :: l => by
    have h1 := bulk_pos d
    have h2 := bulk_len l
    rw [Rows.uptoBulkAll, List.length_cons]
    omega
theorem bulk_mem {H : Type} {d : DataW H} : ∀ {l : List (DataW H)}, d ∈ l → Rows.uptoBulk d ≤ Rows.uptoBulkAll l
  | x :: l, h => by
    rw [Rows.uptoBulkAll]
    rcases List.mem_cons.1 h with rfl | h
    · omega
    · have := bulk_mem h
      omega
theorem weightsAll_mem {H : Type} {P : Program} {e : TypeId} {l : List (DataW H)} {d : DataW H} (hd : d ∈ l) : ∀ n ∈ d.weights P e, n ∈ DataW.weightsAll P e l := by
  induction l with
  | nil => cases hd
  | cons x l ih =>
    intro n hn
    rw [DataW.weightsAll, List.mem_append]
    rcases List.mem_cons.1 hd with rfl | h
    · exact .inl hn
    · exact .inr (ih h n hn)
theorem Try.cells3 : Try.prog.cellsOf 3 = 1 := by kernel_rfl
theorem Try.cells4' : Try.prog.cellsOf 4 = 1 := by kernel_rfl
theorem Try.cells22 : Try.prog.cellsOf 22 = 1 := by kernel_rfl
theorem Try.cells40 : Try.prog.cellsOf 40 = 5 := by kernel_rfl
theorem Try.bytes3' : Try.prog.bytesOf 3 = 8 := by kernel_rfl
theorem Try.bytes40 : Try.prog.bytesOf 40 = 48 := by kernel_rfl
theorem one_of {α : Type} (l : List α) (h : l.length = 1) : ∃ a, l = [a] := by
  match l, h with
  | [a], _ => exact ⟨a, rfl⟩
theorem five_of {α : Type} (l : List α) (h : l.length = 5) : ∃ a b c d e, l = [a, b, c, d, e] := by
  match l, h with
  | [a, b, c, d, e], _ => exact ⟨a, b, c, d, e, rfl⟩
theorem fit_wf {n : Int} (h : (Lit.int .i64 n).wf = true) : Fit n := by
  simp only [Lit.wf, IntKind.min, IntKind.max, IntKind.signed, IntKind.bits, Bool.and_eq_true, decide_eq_true_eq, if_true] at h
  unfold Fit
  omega
theorem choose_int {p : Nat → Int → Prop} : ∀ n, (∀ i, i < n → ∃ s, p i s) → ∃ L : List Int, L.length = n ∧ ∀ i, i < n → p i (L.getD i 0)
  | 0, _ => ⟨[], rfl, fun i hi => absurd hi (Nat.not_lt_zero i)⟩
  | n + 1, h => by
    obtain ⟨L, h1, h2⟩ := choose_int n (fun i hi => h i (by omega))
    obtain ⟨s, hs⟩ := h n (by omega)
    refine ⟨L ++ [s], by simp [h1], fun i hi => ?_⟩
    by_cases hn : i < n
    · have := h2 i hn
      simpa [List.getD_eq_getElem?_getD, List.getElem?_append, h1, hn] using this
    · have : i = n := by omega
      subst this
      subst h1
      simpa [List.getD_eq_getElem?_getD] using hs
theorem choose_op {p : Nat → OpZ → Prop} : ∀ n, (∀ i, i < n → ∃ s, p i s) → ∃ L : List OpZ, L.length = n ∧ ∀ i (h : i < L.length), p i L[i]
  | 0, _ => ⟨[], rfl, fun i hi => absurd hi (Nat.not_lt_zero i)⟩
  | n + 1, h => by
    obtain ⟨L, h1, h2⟩ := choose_op n (fun i hi => h i (by omega))
    obtain ⟨s, hs⟩ := h n (by omega)
    refine ⟨L ++ [s], by simp [h1], fun i hi => ?_⟩
    by_cases hn : i < L.length
    · rw [List.getElem_append_left hn]; exact h2 i hn
    · have : i = L.length := by rw [List.length_append, List.length_singleton] at hi; omega
      subst this
      rw [List.getElem_append_right (Nat.le_refl _)]
      simp only [Nat.sub_self, List.getElem_cons_zero]
      rw [h1]; exact hs
theorem all_getD {L : List Int} {q : Int → Prop} (h : ∀ i, i < L.length → q (L.getD i 0)) : ∀ k ∈ L, q k := fun k hk => by
  obtain ⟨i, hi, rfl⟩ := List.getElem_of_mem hk
  have := h i hi
  simpa [List.getD_eq_getElem?_getD, hi] using this
/-- What bounds a list: the form's bulk, or its weights. -/
def Bnd {H : Type} (up : Bool) (t : TypeId) (d : DataW H) : Prop := if up then Rows.uptoBulk d ≤ 1048576 else ∀ k ∈ d.weights Try.prog t, k ≤ reachBytes
/-- Numbers that came in. -/
theorem ints_open {H : Type} {enc : TypeId × Value → H} {W : World} {fuel : Nat} {a0 : Option Addr} {len cap : Nat} {d : DataW H} {p : List MemPlace} {up : Bool}
    (hf : DataW.trod enc Try.prog W 0 (fun _ => true) true fuel 22 [.slice a0 len cap] = some (d, p)) (hw : Bnd up 22 d) : ∃ L : List Int, L.length = len ∧ ZAt W a0 L ∧ (∀ k ∈ L, Fit k) ∧ len ≤ 17592186043904 := by
  rcases open_slice Try.underlying22 hf with ⟨hcs, _⟩ | ⟨a, l, c, m, n, V, Pl, hcs, _, hl, hm, hmm, hx, hat⟩
  · injection hcs with hv
    injection hv with e1 e2 e3
    subst e2 e3
    exact ⟨[], rfl, .inl rfl, fun k hk => by simp at hk, by omega⟩
  · injection hcs with hv
    injection hv with e1 e2 e3
    subst e1 e2 e3
    simp only [if_true] at hmm
    subst hmm
    simp only [Prod.mk.injEq] at hx
    obtain ⟨hd, hp⟩ := hx
    have hlen : len ≤ 17592186043904 := by
      unfold Bnd at hw
      cases up with
      | true =>
        simp only [if_true] at hw
        rw [hd] at hw
        simp only [Rows.uptoBulk] at hw
        have h9 := bulk_len ((List.range len).map V)
        rw [List.length_map, List.length_range] at h9
        omega
      | false =>
        simp only [Bool.false_eq_true, if_false] at hw
        have hcap : (len + (m - len)) * 8 ≤ reachBytes := by
          refine hw _ ?_
          rw [hd]
          simp [DataW.weights, Try.underlying22, Try.bytes3']
        simp only [reachBytes] at hcap
        omega
    by_cases h0 : len = 0
    · subst h0
      exact ⟨[], rfl, .inl rfl, fun k hk => by simp at hk, by omega⟩
    have each : ∀ i, i < len → ∃ z : Int, W.cell? (a.add (i * 1)) = some (.int .i64 z) ∧ Fit z := by
      intro i hi
      obtain ⟨cs', g1, g2⟩ := hat i (by omega)
      rw [Try.cells3] at g1
      obtain ⟨_, hlen, hcell⟩ := World.cells?_some g1
      obtain ⟨v, rfl⟩ := one_of cs' hlen
      obtain ⟨z, e, _, hwf⟩ := DataW.trod_int Try.underlying3 g2
      simp only [List.cons.injEq, and_true] at e
      subst e
      have c0 := hcell 0 (by decide)
      rw [add_add] at c0
      exact ⟨z, by simpa using c0, fit_wf hwf⟩
    obtain ⟨L, hL, hp'⟩ := choose_int len each
    obtain ⟨b, off, spot⟩ := a
    have hz := (hp' 0 (by omega)).1
    have hspot : spot = none := by simpa [Addr.add] using World.cell?_spot hz
    subst hspot
    refine ⟨L, hL, .inr ⟨b, off, rfl, World.block_lt_of_cell? W _ (by simpa [Addr.add] using hz), fun i hi => ?_⟩, all_getD (fun i hi => (hp' i (by omega)).2), hlen⟩
    have q0 := (hp' i (by omega)).1
    rw [addr_add, Nat.mul_one] at q0
    exact q0
theorem slice_of {H : Type} {enc : TypeId × Value → H} {W : World} {fuel : Nat} {t e : TypeId} {v : Value} {x : DataW H × List MemPlace} (hu : Try.prog.underlying t = some (.slice e)) (hf : DataW.trod enc Try.prog W 0 (fun _ => true) true fuel t [v] = some x) : ∃ ai li ci, v = .slice ai li ci := by
  rcases open_slice hu hf with ⟨hcs, _⟩ | ⟨a', l', c', _, _, _, _, hcs, _⟩
  · injection hcs with hv; exact ⟨none, 0, 0, hv⟩
  · injection hcs with hv; exact ⟨_, l', c', hv⟩
def OpRd (W : World) (a : Addr) (i : Nat) (o : OpZ) : Prop := (W.cell? (a.add (i * 5)) = some (.bool o.other) ∧ W.cell? (a.add (i * 5 + 1)) = some (.bool o.near) ∧ W.cell? (a.add (i * 5 + 2)) = some (.int .i64 o.what) ∧ W.cell? (a.add (i * 5 + 3)) = some (.int .i64 o.n) ∧ W.cell? (a.add (i * 5 + 4)) = some (.slice o.ka o.K.length o.kc)) ∧ OpOk W o
/-- One step, read. -/
theorem op_read {H : Type} {enc : TypeId × Value → H} {W : World} {n : Nat} {a : Addr} {i : Nat} {cs : List Value} {x : DataW H × List MemPlace} {up : Bool}
    (h1 : W.cells? 0 (a.add (i * 5)) 5 = some cs) (h2 : DataW.trod enc Try.prog W 0 (fun _ => true) true n 40 cs = some x) (hw : Bnd up 40 x.1) :
    ∃ o : OpZ, OpRd W a i o := by
  obtain ⟨_, hlen, hcell⟩ := World.cells?_some h1
  obtain ⟨xs, k, _, hxy, _, hxl, hf⟩ := DataW.trod_struct Try.underlying40 h2
  obtain ⟨v0, v1, v2, v3, v4, rfl⟩ := five_of cs hlen
  obtain ⟨y0, y1, y2, y3, y4, rfl⟩ := five_of xs hxl
  have g0 := hf 0 _ rfl
  have g1 := hf 1 _ rfl
  have g2 := hf 2 _ rfl
  have g3 := hf 3 _ rfl
  have g4 := hf 4 _ rfl
  simp [Try.cells3, Try.cells4', Try.cells22] at g0 g1 g2 g3 g4
  obtain ⟨n0, e0, f0⟩ := DataW.trod_bool Try.underlying4 g0
  obtain ⟨n1, e1, f1⟩ := DataW.trod_bool Try.underlying4 g1
  obtain ⟨n2, e2, f2, w2⟩ := DataW.trod_int Try.underlying3 g2
  obtain ⟨n3, e3, f3, w3⟩ := DataW.trod_int Try.underlying3 g3
  simp only [List.cons.injEq, and_true] at e0 e1 e2 e3
  subst e0 e1 e2 e3
  obtain ⟨ai, li, ci, rfl⟩ := slice_of Try.underlying22 g4
  have hw4 : Bnd up 22 y4.1 := by
    unfold Bnd at hw ⊢
    cases up with
    | true =>
      simp only [if_true] at hw ⊢
      simp only [hxy, Rows.uptoBulk, List.map_cons, List.map_nil, Rows.uptoBulkAll] at hw
      omega
    | false =>
      simp only [Bool.false_eq_true, if_false] at hw ⊢
      intro k hk
      refine hw k ?_
      rw [hxy]
      simp [DataW.weights, Try.underlying40]
      exact DataW.weights_mem_each (j := 4) (t := 22) rfl rfl k hk
  obtain ⟨L, e5, hz, hk, hl⟩ := ints_open (d := y4.1) (p := y4.2) g4 hw4
  subst e5
  have c0 := hcell 0 (by decide)
  have c1 := hcell 1 (by decide)
  have c2 := hcell 2 (by decide)
  have c3 := hcell 3 (by decide)
  have c4 := hcell 4 (by decide)
  rw [add_add] at c0 c1 c2 c3 c4
  exact ⟨⟨n0, n1, n2, n3, ai, L, ci⟩, ⟨by simpa using c0, by simpa using c1, by simpa using c2, by simpa using c3, by simpa using c4⟩, ⟨fit_wf w3, hk, hz, hl⟩⟩
/-- A script that came in. -/
theorem script_open {H : Type} {enc : TypeId × Value → H} {W : World} {fuel : Nat} {a0 : Option Addr} {len cap : Nat} {d : DataW H} {p : List MemPlace} {up : Bool}
    (hf : DataW.trod enc Try.prog W 0 (fun _ => true) true fuel 23 [.slice a0 len cap] = some (d, p)) (hw : Bnd up 23 d) : ∃ S : List OpZ, S.length = len ∧ (len ≤ if up then 1048576 else 2932031007317) ∧ OpAt W a0 S := by
  rcases open_slice Try.underlying23 hf with ⟨hcs, _⟩ | ⟨a, l, c, m, n, V, Pl, hcs, _, hl, hm, hmm, hx, hat⟩
  · injection hcs with hv
    injection hv with e1 e2 e3
    subst e2 e3
    exact ⟨[], rfl, Nat.zero_le _, .inl rfl⟩
  · injection hcs with hv
    injection hv with e1 e2 e3
    subst e1 e2 e3
    simp only [if_true] at hmm
    subst hmm
    simp only [Prod.mk.injEq] at hx
    obtain ⟨hd, hp⟩ := hx
    have hw' := hw
    have hlen : len ≤ if up then 1048576 else 2932031007317 := by
      unfold Bnd at hw
      cases up with
      | true =>
        simp only [if_true] at hw ⊢
        rw [hd] at hw
        simp only [Rows.uptoBulk] at hw
        have h9 := bulk_len ((List.range len).map V)
        rw [List.length_map, List.length_range] at h9
        omega
      | false =>
        simp only [Bool.false_eq_true, if_false] at hw ⊢
        have hcap : (len + (m - len)) * 48 ≤ reachBytes := by
          refine hw _ ?_
          rw [hd]
          simp [DataW.weights, Try.underlying23, Try.bytes40]
        simp only [reachBytes] at hcap
        omega
    by_cases h0 : len = 0
    · subst h0
      exact ⟨[], rfl, Nat.zero_le _, .inl rfl⟩
    have each : ∀ i, i < len → ∃ o : OpZ, OpRd W a i o := fun i hi => by
      obtain ⟨cs', g1, g2⟩ := hat i (by omega)
      rw [Try.cells40] at g1
      refine op_read (up := up) g1 g2 ?_
      unfold Bnd at hw' ⊢
      cases up with
      | true =>
        simp only [if_true] at hw' ⊢
        rw [hd] at hw'
        simp only [Rows.uptoBulk] at hw'
        have := bulk_mem (d := V i) (l := (List.range len).map V) (List.mem_map.2 ⟨i, List.mem_range.2 hi, rfl⟩)
        omega
      | false =>
        simp only [Bool.false_eq_true, if_false] at hw' ⊢
        intro k hk
        refine hw' k ?_
        rw [hd]
        simp only [DataW.weights, Try.underlying23, List.mem_cons, List.mem_append]
        exact .inr (.inl (weightsAll_mem (List.mem_map.2 ⟨i, List.mem_range.2 hi, rfl⟩) k hk))
    obtain ⟨L, hL, hp'⟩ := choose_op len each
    obtain ⟨b, off, spot⟩ := a
    have hz := (hp' 0 (by omega)).1.1
    have hspot : spot = none := by simpa [Addr.add] using World.cell?_spot hz
    subst hspot
    refine ⟨L, hL, hlen, .inr ⟨b, off, rfl, World.block_lt_of_cell? W _ (by simpa [Addr.add] using hz), fun i hi => ?_⟩⟩
    obtain ⟨⟨q0, q1, q2, q3, q4⟩, r1⟩ := hp' i hi
    rw [addr_add] at q0 q1 q2 q3 q4
    exact ⟨⟨q0, q1, q2, q3, q4⟩, r1⟩
end Go.Proofs.Ytkklphmhbbjmcaa
