/-
  A script that came in, with all that its steps bring, lies in memory as the walks ask it. Condition: the form's own reach.
-/
import Derived.Test.YtaafeflbanoncaaP52
import Derived.Test.YtaafeflbanoncaaP37
namespace Go.Proofs.Ytaafeflbanoncaa
open Go.RowKit Go.Deep

/-- A step and its lists. -/
structure OpX where
  z : OpZ
  IN : List Bool
  CS : List Int
def OpRdX (W : World) (a : Addr) (i : Nat) (o : OpX) : Prop := (∀ j u, (opA o.z)[j]? = some u → W.cell? (a.add (i * 9 + j)) = some u) ∧ OpIn W o.z o.IN o.CS
/-- One step, read. -/
theorem op_readX {H : Type} {enc : TypeId × Value → H} {W : World} {n : Nat} {a : Addr} {i : Nat} {cs : List Value} {x : DataW H × List MemPlace}
    (h1 : W.cells? 0 (a.add (i * 9)) 9 = some cs) (h2 : DataW.trod enc Try.prog W 0 (fun _ => true) true n 38 cs = some x) (hw : Bnd false 38 x.1) :
    ∃ o : OpX, OpRdX W a i o := by
  obtain ⟨_, hlen, hcell⟩ := World.cells?_some h1
  obtain ⟨xs, k, _, hxy, _, hxl, hf⟩ := DataW.trod_struct Try.underlying38 h2
  obtain ⟨v0, v1, v2, v3, v4, v5, v6, v7, v8, rfl⟩ := nine_of cs hlen
  obtain ⟨y0, y1, y2, y3, y4, y5, y6, y7, y8, rfl⟩ := nine_of xs hxl
  have g0 := hf 0 _ rfl
  have g1 := hf 1 _ rfl
  have g2 := hf 2 _ rfl
  have g3 := hf 3 _ rfl
  have g4 := hf 4 _ rfl
  have g5 := hf 5 _ rfl
  have g6 := hf 6 _ rfl
  have g7 := hf 7 _ rfl
  have g8 := hf 8 _ rfl
  simp [Try.cells3, Try.cells4', Try.cells22, Try.cells36] at g0 g1 g2 g3 g4 g5 g6 g7 g8
  obtain ⟨n0, e0, f0⟩ := DataW.trod_bool Try.underlying4 g0
  obtain ⟨n1, e1, f1, w1⟩ := DataW.trod_int Try.underlying3 g1
  obtain ⟨n2, e2, f2, w2⟩ := DataW.trod_int Try.underlying3 g2
  obtain ⟨n3, e3, f3, w3⟩ := DataW.trod_int Try.underlying3 g3
  obtain ⟨n4, e4, f4, w4⟩ := DataW.trod_int Try.underlying3 g4
  obtain ⟨n5, e5, f5, w5⟩ := DataW.trod_int Try.underlying3 g5
  obtain ⟨n6, e6, f6, w6⟩ := DataW.trod_int Try.underlying3 g6
  simp only [List.cons.injEq, and_true] at e0 e1 e2 e3 e4 e5 e6
  subst e0 e1 e2 e3 e4 e5 e6
  obtain ⟨ai, li, ci, rfl⟩ := slice_of Try.underlying36 g7
  obtain ⟨aj, lj, cj, rfl⟩ := slice_of Try.underlying22 g8
  have hw7 : Bnd false 36 y7.1 := by
    unfold Bnd at hw ⊢
    simp only [Bool.false_eq_true, if_false] at hw ⊢
    intro k hk
    refine hw k ?_
    rw [hxy]
    simp [DataW.weights, Try.underlying38]
    exact DataW.weights_mem_each (j := 7) (t := 36) rfl rfl k hk
  have hw8 : Bnd false 22 y8.1 := by
    unfold Bnd at hw ⊢
    simp only [Bool.false_eq_true, if_false] at hw ⊢
    intro k hk
    refine hw k ?_
    rw [hxy]
    simp [DataW.weights, Try.underlying38]
    exact DataW.weights_mem_each (j := 8) (t := 22) rfl rfl k hk
  obtain ⟨L, e9, hz, hl⟩ := bools_open (d := y7.1) (p := y7.2) g7 hw7
  obtain ⟨C, e8, hz8, hf8, hl8⟩ := ints_open (up := false) (d := y8.1) (p := y8.2) g8 hw8
  subst e9 e8
  refine ⟨⟨⟨n0, n1, n2, n3, n4, n5, n6, ai, L.length, ci, aj, C.length, cj⟩, L, C⟩, fun j u hu => ?_, ⟨fit_wf w2, fit_wf w3, fit_wf w4, fit_wf w5, fit_wf w6, rfl, hz, hl, rfl, hz8, hf8, hl8⟩⟩
  have hj : j < 9 := by
    rcases Nat.lt_or_ge j 9 with h | h
    · exact h
    · rw [Array.getElem?_eq_none (by simpa [opA] using h)] at hu; cases hu
  have c0 := hcell j hj
  rw [add_add] at c0
  have : ([Value.bool n0, .int .i64 n1, .int .i64 n2, .int .i64 n3, .int .i64 n4, .int .i64 n5, .int .i64 n6, .slice ai L.length ci, .slice aj C.length cj] : List Value)[j]? = some u := by simpa [opA] using hu
  first | exact c0.trans this | (rw [c0]; simpa using this)
/-- A script in memory. -/
def OpAtX (w : World) (so : Option Addr) (T : List OpX) : Prop := T = [] ∨ ∃ b off, so = some ⟨b, off, none⟩ ∧ b < w.heap.size ∧ ∀ i (h : i < T.length), (∀ j u, (opA T[i].z)[j]? = some u → w.cell? ⟨b, off + i * 9 + j, none⟩ = some u) ∧ OpIn w T[i].z T[i].IN T[i].CS
theorem choose_opX {p : Nat → OpX → Prop} : ∀ n, (∀ i, i < n → ∃ s, p i s) → ∃ L : List OpX, L.length = n ∧ ∀ i (h : i < L.length), p i L[i]
  | 0, _ => ⟨[], rfl, fun i hi => absurd hi (Nat.not_lt_zero i)⟩
  | n + 1, h => by
    obtain ⟨L, h1, h2⟩ := choose_opX n (fun i hi => h i (by omega))
    obtain ⟨s, hs⟩ := h n (by omega)
    refine ⟨L ++ [s], by simp [h1], fun i hi => ?_⟩
    by_cases hn : i < L.length
    · rw [List.getElem_append_left hn]; exact h2 i hn
    · have : i = L.length := by rw [List.length_append, List.length_singleton] at hi; omega
      subst this
      rw [List.getElem_append_right (Nat.le_refl _)]
      simp only [Nat.sub_self, List.getElem_cons_zero]
      rw [h1]; exact hs
/-- A script that came in. -/
theorem script_openX {H : Type} {enc : TypeId × Value → H} {W : World} {fuel : Nat} {a0 : Option Addr} {len cap : Nat} {d : DataW H} {p : List MemPlace}
    (hf : DataW.trod enc Try.prog W 0 (fun _ => true) true fuel 23 [.slice a0 len cap] = some (d, p)) (hw : Bnd false 23 d) : ∃ S : List OpX, S.length = len ∧ len ≤ 2800000000000 ∧ OpAtX W a0 S := by
  rcases open_slice Try.underlying23 hf with ⟨hcs, _⟩ | ⟨a, l, c, m, n, V, Pl, hcs, _, hl, hm, hmm, hx, hat⟩
  · injection hcs with hv
    injection hv with e1 e2 e3
    subst e2 e3
    exact ⟨[], rfl, Nat.zero_le _, .inl rfl⟩
  · injection hcs with hv
    injection hv with e1 e2 e3
    subst e1 e2 e3
    simp only [if_true] at hmm
    subst hmm
    simp only [Prod.mk.injEq] at hx
    obtain ⟨hd, hp⟩ := hx
    have hw' := hw
    have hlen : len ≤ 2800000000000 := by
      unfold Bnd at hw
      simp only [Bool.false_eq_true, if_false] at hw ⊢
      have hcap : (len + (m - len)) * 104 ≤ reachBytes := by
        refine hw _ ?_
        rw [hd]
        simp [DataW.weights, Try.underlying23, Try.bytes38]
      simp only [reachBytes] at hcap
      omega
    by_cases h0 : len = 0
    · subst h0
      exact ⟨[], rfl, Nat.zero_le _, .inl rfl⟩
    have each : ∀ i, i < len → ∃ o : OpX, OpRdX W a i o := fun i hi => by
      obtain ⟨cs', g1, g2⟩ := hat i (by omega)
      rw [Try.cells38] at g1
      refine op_readX g1 g2 ?_
      unfold Bnd at hw' ⊢
      simp only [Bool.false_eq_true, if_false] at hw' ⊢
      intro k hk
      refine hw' k ?_
      rw [hd]
      simp only [DataW.weights, Try.underlying23, List.mem_cons, List.mem_append]
      exact .inr (.inl (weightsAll_mem (List.mem_map.2 ⟨i, List.mem_range.2 hi, rfl⟩) k hk))
    obtain ⟨L, hL, hp'⟩ := choose_opX len each
    obtain ⟨b, off, spot⟩ := a
    have hz := (hp' 0 (by omega)).1 0 _ rfl
    have hspot : spot = none := by simpa [Addr.add] using World.cell?_spot hz
    subst hspot
    refine ⟨L, hL, hlen, .inr ⟨b, off, rfl, World.block_lt_of_cell? W _ (by simpa [Addr.add] using hz), fun i hi => ?_⟩⟩
    obtain ⟨q0, r1⟩ := hp' i hi
    refine ⟨fun j u hu => ?_, r1⟩
    have := q0 j u hu
    rw [addr_add] at this
    rw [Nat.add_assoc]
    exact this
end Go.Proofs.Ytaafeflbanoncaa
/-
  What came in as an argument, within the form's bulk, lies in memory as the walks ask it. Condition: the form's own bulk.
-/
namespace Go.Proofs.Ytaafeflbanoncaa
open Go.RowKit Go.Deep

theorem bulk_pos {H : Type} (d : DataW H) : 1 ≤ Rows.uptoBulk d := by
  cases d with
  | lit l => cases l <;> simp [Rows.uptoBulk]
  | nil => simp [Rows.uptoBulk]
  | ptr d => simp [Rows.uptoBulk]
  | slice a b => simp [Rows.uptoBulk]
  | agg p => simp [Rows.uptoBulk]
  | iface t d => simp [Rows.uptoBulk]
  | map e => simp [Rows.uptoBulk]
  | held h => simp [Rows.uptoBulk]
theorem bulk_len {H : Type} : ∀ l : List (DataW H), l.length ≤ Rows.uptoBulkAll l
  | [] => Nat.zero_le _
  | d :: l => by
    have h1 := bulk_pos d
    have h2 := bulk_len l
    rw [Rows.uptoBulkAll, List.length_cons]
    omega
theorem bulk_mem {H : Type} {d : DataW H} : ∀ {l : List (DataW H)}, d ∈ l → Rows.uptoBulk d ≤ Rows.uptoBulkAll l
  | x :: l, h => by
    rw [Rows.uptoBulkAll]
    rcases List.mem_cons.1 h with rfl | h
    · omega
    · have := bulk_mem h
      omega
/-- Numbers that came in. -/
theorem ints_openU {H : Type} {enc : TypeId × Value → H} {W : World} {fuel : Nat} {a0 : Option Addr} {len cap : Nat} {d : DataW H} {p : List MemPlace}
    (hf : DataW.trod enc Try.prog W 0 (fun _ => true) true fuel 22 [.slice a0 len cap] = some (d, p)) (hw : Rows.uptoBulk d ≤ 1048576) : ∃ L : List Int, L.length = len ∧ ZAt W a0 L ∧ (∀ k ∈ L, Fit k) ∧ len ≤ 1048576 := by
  rcases open_slice Try.underlying22 hf with ⟨hcs, _⟩ | ⟨a, l, c, m, n, V, Pl, hcs, _, hl, hm, hmm, hx, hat⟩
  · injection hcs with hv
    injection hv with e1 e2 e3
    subst e2 e3
    exact ⟨[], rfl, .inl rfl, fun k hk => by simp at hk, by omega⟩
  · injection hcs with hv
    injection hv with e1 e2 e3
    subst e1 e2 e3
    simp only [if_true] at hmm
    subst hmm
    simp only [Prod.mk.injEq] at hx
    obtain ⟨hd, hp⟩ := hx
    have hlen : len ≤ 1048576 := by
      rw [hd] at hw
      simp only [Rows.uptoBulk] at hw
      have h9 := bulk_len ((List.range len).map V)
      rw [List.length_map, List.length_range] at h9
      omega
    by_cases h0 : len = 0
    · subst h0
      exact ⟨[], rfl, .inl rfl, fun k hk => by simp at hk, by omega⟩
    have each : ∀ i, i < len → ∃ z : Int, W.cell? (a.add (i * 1)) = some (.int .i64 z) ∧ Fit z := by
      intro i hi
      obtain ⟨cs', g1, g2⟩ := hat i (by omega)
      rw [Try.cells3] at g1
      obtain ⟨_, hlen, hcell⟩ := World.cells?_some g1
      obtain ⟨v, rfl⟩ := one_of cs' hlen
      obtain ⟨z, e, _, hwf⟩ := DataW.trod_int Try.underlying3 g2
      simp only [List.cons.injEq, and_true] at e
      subst e
      have c0 := hcell 0 (by decide)
      rw [add_add] at c0
      exact ⟨z, by simpa using c0, fit_wf hwf⟩
    obtain ⟨L, hL, hp'⟩ := choose_int len each
    obtain ⟨b, off, spot⟩ := a
    have hz := (hp' 0 (by omega)).1
    have hspot : spot = none := by simpa [Addr.add] using World.cell?_spot hz
    subst hspot
    refine ⟨L, hL, .inr ⟨b, off, rfl, World.block_lt_of_cell? W _ (by simpa [Addr.add] using hz), fun i hi => ?_⟩, all_getD (fun i hi => (hp' i (by omega)).2), hlen⟩
    have q0 := (hp' i (by omega)).1
    rw [addr_add, Nat.mul_one] at q0
    exact q0
/-- Bools that came in. -/
theorem bools_openU {H : Type} {enc : TypeId × Value → H} {W : World} {fuel : Nat} {a0 : Option Addr} {len cap : Nat} {d : DataW H} {p : List MemPlace}
    (hf : DataW.trod enc Try.prog W 0 (fun _ => true) true fuel 36 [.slice a0 len cap] = some (d, p)) (hw : Rows.uptoBulk d ≤ 1048576) : ∃ L : List Bool, L.length = len ∧ BAt W a0 L ∧ len ≤ 1048576 := by
  rcases open_slice Try.underlying36 hf with ⟨hcs, _⟩ | ⟨a, l, c, m, n, V, Pl, hcs, _, hl, hm, hmm, hx, hat⟩
  · injection hcs with hv
    injection hv with e1 e2 e3
    subst e2 e3
    exact ⟨[], rfl, .inl rfl, by omega⟩
  · injection hcs with hv
    injection hv with e1 e2 e3
    subst e1 e2 e3
    simp only [if_true] at hmm
    subst hmm
    simp only [Prod.mk.injEq] at hx
    obtain ⟨hd, hp⟩ := hx
    have hlen : len ≤ 1048576 := by
      rw [hd] at hw
      simp only [Rows.uptoBulk] at hw
      have h9 := bulk_len ((List.range len).map V)
      rw [List.length_map, List.length_range] at h9
      omega
    by_cases h0 : len = 0
    · subst h0
      exact ⟨[], rfl, .inl rfl, by omega⟩
    have each : ∀ i, i < len → ∃ z : Bool, W.cell? (a.add (i * 1)) = some (.bool z) := by
      intro i hi
      obtain ⟨cs', g1, g2⟩ := hat i (by omega)
      rw [Try.cells4'] at g1
      obtain ⟨_, hlen, hcell⟩ := World.cells?_some g1
      obtain ⟨v, rfl⟩ := one_of cs' hlen
      obtain ⟨z, e, _⟩ := DataW.trod_bool Try.underlying4 g2
      simp only [List.cons.injEq, and_true] at e
      subst e
      have c0 := hcell 0 (by decide)
      rw [add_add] at c0
      exact ⟨z, by simpa using c0⟩
    obtain ⟨L, hL, hp'⟩ := choose_bool len each
    obtain ⟨b, off, spot⟩ := a
    have hz := hp' 0 (by omega)
    have hspot : spot = none := by simpa [Addr.add] using World.cell?_spot hz
    subst hspot
    refine ⟨L, hL, .inr ⟨b, off, rfl, World.block_lt_of_cell? W _ (by simpa [Addr.add] using hz), fun i hi => ?_⟩, hlen⟩
    have q0 := hp' i (by omega)
    rw [addr_add, Nat.mul_one] at q0
    exact q0
/-- One step, read. -/
theorem op_readU {H : Type} {enc : TypeId × Value → H} {W : World} {n : Nat} {a : Addr} {i : Nat} {cs : List Value} {x : DataW H × List MemPlace}
    (h1 : W.cells? 0 (a.add (i * 9)) 9 = some cs) (h2 : DataW.trod enc Try.prog W 0 (fun _ => true) true n 38 cs = some x) (hw : Rows.uptoBulk x.1 ≤ 1048576) :
    ∃ o : OpX, OpRdX W a i o ∧ o.CS.length ≤ 1048576 := by
  obtain ⟨_, hlen, hcell⟩ := World.cells?_some h1
  obtain ⟨xs, k, _, hxy, _, hxl, hf⟩ := DataW.trod_struct Try.underlying38 h2
  obtain ⟨v0, v1, v2, v3, v4, v5, v6, v7, v8, rfl⟩ := nine_of cs hlen
  obtain ⟨y0, y1, y2, y3, y4, y5, y6, y7, y8, rfl⟩ := nine_of xs hxl
  have g0 := hf 0 _ rfl
  have g1 := hf 1 _ rfl
  have g2 := hf 2 _ rfl
  have g3 := hf 3 _ rfl
  have g4 := hf 4 _ rfl
  have g5 := hf 5 _ rfl
  have g6 := hf 6 _ rfl
  have g7 := hf 7 _ rfl
  have g8 := hf 8 _ rfl
  simp [Try.cells3, Try.cells4', Try.cells22, Try.cells36] at g0 g1 g2 g3 g4 g5 g6 g7 g8
  obtain ⟨n0, e0, f0⟩ := DataW.trod_bool Try.underlying4 g0
  obtain ⟨n1, e1, f1, w1⟩ := DataW.trod_int Try.underlying3 g1
  obtain ⟨n2, e2, f2, w2⟩ := DataW.trod_int Try.underlying3 g2
  obtain ⟨n3, e3, f3, w3⟩ := DataW.trod_int Try.underlying3 g3
  obtain ⟨n4, e4, f4, w4⟩ := DataW.trod_int Try.underlying3 g4
  obtain ⟨n5, e5, f5, w5⟩ := DataW.trod_int Try.underlying3 g5
  obtain ⟨n6, e6, f6, w6⟩ := DataW.trod_int Try.underlying3 g6
  simp only [List.cons.injEq, and_true] at e0 e1 e2 e3 e4 e5 e6
  subst e0 e1 e2 e3 e4 e5 e6
  obtain ⟨ai, li, ci, rfl⟩ := slice_of Try.underlying36 g7
  obtain ⟨aj, lj, cj, rfl⟩ := slice_of Try.underlying22 g8
  have hbb : Rows.uptoBulk y7.1 ≤ 1048576 ∧ Rows.uptoBulk y8.1 ≤ 1048576 := by
    rw [hxy] at hw
    simp only [Rows.uptoBulk] at hw
    have q7 := bulk_mem (d := y7.1) (l := [y0, y1, y2, y3, y4, y5, y6, y7, y8].map (·.1)) (by simp)
    have q8 := bulk_mem (d := y8.1) (l := [y0, y1, y2, y3, y4, y5, y6, y7, y8].map (·.1)) (by simp)
    simp only [List.map_cons, List.map_nil] at q7 q8 hw
    exact ⟨by omega, by omega⟩
  obtain ⟨L, e9, hz, hl⟩ := bools_openU (d := y7.1) (p := y7.2) g7 hbb.1
  obtain ⟨C, e8, hz8, hf8, hl8⟩ := ints_openU (d := y8.1) (p := y8.2) g8 hbb.2
  subst e9 e8
  refine ⟨⟨⟨n0, n1, n2, n3, n4, n5, n6, ai, L.length, ci, aj, C.length, cj⟩, L, C⟩, ⟨fun j u hu => ?_, ⟨fit_wf w2, fit_wf w3, fit_wf w4, fit_wf w5, fit_wf w6, rfl, hz, Nat.le_trans hl (by decide), rfl, hz8, hf8, Nat.le_trans hl8 (by decide)⟩⟩, hl8⟩
  have hj : j < 9 := by
    rcases Nat.lt_or_ge j 9 with h | h
    · exact h
    · rw [Array.getElem?_eq_none (by simpa [opA] using h)] at hu; cases hu
  have c0 := hcell j hj
  rw [add_add] at c0
  have : ([Value.bool n0, .int .i64 n1, .int .i64 n2, .int .i64 n3, .int .i64 n4, .int .i64 n5, .int .i64 n6, .slice ai L.length ci, .slice aj C.length cj] : List Value)[j]? = some u := by simpa [opA] using hu
  first | exact c0.trans this | (rw [c0]; simpa using this)
/-- A script that came in. -/
theorem script_openU {H : Type} {enc : TypeId × Value → H} {W : World} {fuel : Nat} {a0 : Option Addr} {len cap : Nat} {d : DataW H} {p : List MemPlace}
    (hf : DataW.trod enc Try.prog W 0 (fun _ => true) true fuel 23 [.slice a0 len cap] = some (d, p)) (hw : Rows.uptoBulk d ≤ 1048576) : ∃ S : List OpX, S.length = len ∧ len ≤ 1048576 ∧ OpAtX W a0 S ∧ ∀ o ∈ S, o.CS.length ≤ 1048576 := by
  rcases open_slice Try.underlying23 hf with ⟨hcs, _⟩ | ⟨a, l, c, m, n, V, Pl, hcs, _, hl, hm, hmm, hx, hat⟩
  · injection hcs with hv
    injection hv with e1 e2 e3
    subst e2 e3
    exact ⟨[], rfl, Nat.zero_le _, .inl rfl, fun o ho => by simp at ho⟩
  · injection hcs with hv
    injection hv with e1 e2 e3
    subst e1 e2 e3
    simp only [if_true] at hmm
    subst hmm
    simp only [Prod.mk.injEq] at hx
    obtain ⟨hd, hp⟩ := hx
    have hw' := hw
    have hlen : len ≤ 1048576 := by
      rw [hd] at hw
      simp only [Rows.uptoBulk] at hw
      have h9 := bulk_len ((List.range len).map V)
      rw [List.length_map, List.length_range] at h9
      omega
    by_cases h0 : len = 0
    · subst h0
      exact ⟨[], rfl, Nat.zero_le _, .inl rfl, fun o ho => by simp at ho⟩
    have each : ∀ i, i < len → ∃ o : OpX, OpRdX W a i o ∧ o.CS.length ≤ 1048576 := fun i hi => by
      obtain ⟨cs', g1, g2⟩ := hat i (by omega)
      rw [Try.cells38] at g1
      refine op_readU g1 g2 ?_
      rw [hd] at hw'
      simp only [Rows.uptoBulk] at hw'
      have h9 := bulk_mem (d := V i) (l := (List.range len).map V) (List.mem_map.2 ⟨i, List.mem_range.2 hi, rfl⟩)
      show Rows.uptoBulk (V i) ≤ 1048576
      omega
    obtain ⟨L, hL, hp'⟩ := choose_opX len each
    obtain ⟨b, off, spot⟩ := a
    have hz := (hp' 0 (by omega)).1.1 0 _ rfl
    have hspot : spot = none := by simpa [Addr.add] using World.cell?_spot hz
    subst hspot
    refine ⟨L, hL, hlen, .inr ⟨b, off, rfl, World.block_lt_of_cell? W _ (by simpa [Addr.add] using hz), fun i hi => ?_⟩, fun o ho => ?_⟩
    rotate_left
    · obtain ⟨i, hi, rfl⟩ := List.getElem_of_mem ho
      exact (hp' i hi).2
    obtain ⟨⟨q0, r1⟩, _⟩ := hp' i hi
    refine ⟨fun j u hu => ?_, r1⟩
    have := q0 j u hu
    rw [addr_add] at this
    rw [Nat.add_assoc]
    exact this
end Go.Proofs.Ytaafeflbanoncaa
