/-
  Rows that are their owner's, or full; refs by levels. Of no program: no condition.
-/
import Derived.Test.YtnddhkhmbjeefaaP06
namespace Go.Proofs.Ytnddhkhmbjeefaa
open Go.RowKit Go.Lib Go.Maps

/-- A row of its own, or one without room. -/
def FRow (w : World) (e : TypeId) (size : Nat) (v : Value) (n : Nat) (xs : List Value) : Prop :=
  w.ownsRow 0 e size v n xs ∨ ∃ g cs, v = .slice (some ⟨g, 0, none⟩) n n ∧ w.heap[g]? = some (.cells cs e (0, 0)) ∧ cs.toList.take (n * size) = xs ∧ xs.length = n * size
section
variable {w w' : World} {e : TypeId} {size n : Nat} {v : Value} {xs : List Value}
theorem FRow.len (h : FRow w e size v n xs) : xs.length = n * size := by
  rcases h with h | ⟨g, cs, _, _, _, h⟩
  · exact h.1
  · exact h
theorem FRow.shape (h : FRow w e size v n xs) : ∃ ao cap, v = .slice ao n cap ∧ (0 < n → ∃ g, ao = some ⟨g, 0, none⟩) ∧ n ≤ cap := by
  rcases h with h | ⟨g, cs, rfl, _⟩
  · obtain ⟨ao, cap, rfl, hp⟩ := own_shape h
    exact ⟨ao, cap, rfl, hp, own_cap' h⟩
  · exact ⟨_, n, rfl, fun _ => ⟨g, rfl⟩, Nat.le_refl _⟩
theorem FRow.ty (h : FRow w e size v n xs) {k : Nat} (hk : v.ownBlock = some k) : ∃ cs, w.heap[k]? = some (.cells cs e (0, 0)) := by
  rcases h with h | ⟨g, cs, rfl, h1, _⟩
  · exact own_ty h k hk
  · obtain rfl : g = k := Option.some.inj hk
    exact ⟨cs, h1⟩
theorem FRow.lt (h : FRow w e size v n xs) {k : Nat} (hk : v.ownBlock = some k) : k < w.heap.size := by
  obtain ⟨cs, h1⟩ := h.ty hk
  exact lt_of_block h1
theorem FRow.kept {F : Nat → Prop} (h : FRow w e size v n xs) (hk : Kept F w w') (hF : ∀ k, v.ownBlock = some k → ¬ F k) : FRow w' e size v n xs := by
  rcases h with h | ⟨g, cs, rfl, h1, h2⟩
  · exact .inl (own_kept h hk hF)
  · exact .inr ⟨g, cs, rfl, (hk.block g (lt_of_block h1) (hF g rfl)).trans h1, h2⟩
theorem FRow.cell (h : FRow w e size v n xs) {g cap n' : Nat} (hv : v = .slice (some ⟨g, 0, none⟩) n' cap) {j : Nat} (hj : j < n * size) : w.cell? ⟨g, j, none⟩ = xs[j]? := by
  rcases h with h | ⟨g', cs, e1, h1, h2, h3⟩
  · obtain ⟨ao, cap', e1, _⟩ := own_shape h
    rw [hv] at e1
    injection e1 with e1 e2 e3
    subst e1 e2 e3
    subst hv
    exact World.ownsRow.cellAt h j hj
  · rw [hv] at e1
    injection e1 with e1 e2 e3
    injection e1 with e1; injection e1 with e1
    subst e1
    rw [cell_of_row w g j _ _ _ h1, ← h2, List.getElem?_take_of_lt hj, Array.getElem?_toList]
theorem FRow.cut {ao : Option Addr} {cap k : Nat} (h : FRow w e size (.slice ao n cap) n xs) (hk : k ≤ n) : FRow w e size (.slice ao k k) k (xs.take (k * size)) := by
  have hl := h.len
  have hkm : k * size ≤ n * size := Nat.mul_le_mul_right _ hk
  have hx : (xs.take (k * size)).length = k * size := by rw [List.length_take]; omega
  rcases h with h | ⟨g', cs, e1, h1, h2, h3⟩
  · rcases h.2 with ⟨e1, e2⟩ | ⟨g', cap', cur, e1, _, hg, _, _, _, h4⟩
    · injection e1 with e1 _ _
      subst e1
      obtain rfl : k = 0 := by omega
      exact .inl ⟨by simp, .inl ⟨rfl, rfl⟩⟩
    · injection e1 with e1 _ _
      subst e1
      exact .inr ⟨g', cur, rfl, hg, by rw [← h4, List.take_take, Nat.min_eq_left hkm], hx⟩
  · injection e1 with e1 _ _
    subst e1
    exact .inr ⟨g', cs, rfl, h1, by rw [← h2, List.take_take, Nat.min_eq_left hkm], hx⟩
/-- An append to such a row, inside a region. -/
theorem step_append_frow {P : Program} {ops : Array Oper} {o : Oper} {a : Act} {K : Act → World → Prop} {Q : Exit → Act → World → Prop} {E : Prop} (hgd : o.guard = none) (s x : Operand) (t : TypeId)
    (ho : o.op = .call { callee := .builtin .append, args := #[s, x], argTypes := #[t, t] })
    (e : TypeId) (i : TypeInfo) (z : Value) (size bytes : Nat) (ht : P.underlying t = some (.slice e)) (hi : P.info? e = some i) (hz : i.zero = some z)
    (hsize : i.size = size) (hby : i.bytes = bytes) (hzs : z.cells.size = size) (hsz : 0 < size)
    (v : Value) (n : Nat) (xs : List Value) (hs : a.eval s = v) (hown : FRow w e size v n xs)
    (ad : Addr) (m c : Nat) (news : List Value) (hx : a.eval x = .slice (some ad) m c) (hl : news.length = m * size) (hnews : ∀ j u, news[j]? = some u → w.cell? (ad.add j) = some u) (h1 : ∀ u ∈ news, u.oneCell' = true)
    (hm : 0 < m) (h63 : n + m ≤ maxLen) (hbytes : (n + m) * bytes ≤ 140737488355328)
    (h : ∀ g cap w', w'.ownsRow 0 e size (.slice (some ⟨g, 0, none⟩) (n + m) cap) (n + m) (xs ++ news) → Kept (fun k => v.ownBlock = some k) w w' → (v.ownBlock = some g ∨ w.heap.size ≤ g) → K (a.put o.dst (.slice (some ⟨g, 0, none⟩) (n + m) cap)) w') :
    if Region.wanted o (yielded ops a.tmps) = true then Oper.wp P o a w K Q else E := by
  rcases hown with hown | ⟨g, cs, rfl, q1, q2, q3⟩
  · refine step_append_lies w hgd s x t ho 0 e i z size bytes ht hi hz hsize hby hzs hsz v n xs hs hown ad m c news hx hl hnews h1 hm h63 hbytes (Nat.zero_le _) _ rfl ?_
    intro g cap w' r1 r2 r3 _
    exact h g cap w' r1 (kept_of_grown r2) (r3.imp id (fun e => by omega))
  · have hw : Region.wanted o (yielded ops a.tmps) = true := by simp [Region.wanted, hgd]
    rw [if_pos hw]
    obtain ⟨v', w', hrun, r1, r2⟩ := run_append_arg_grows (P := P) w t o.type e i z size bytes ht hi hz hsize hby hzs hsz ⟨g, 0, none⟩ n n xs q3 (fun j u hu => by
      have hj : j < n * size := by
        rcases Nat.lt_or_ge j xs.length with h | h
        · omega
        · rw [List.getElem?_eq_none h] at hu; cases hu
      rw [addr_add, Nat.zero_add, cell_of_row w g j _ _ _ q1]
      rw [← q2, List.getElem?_take_of_lt hj, Array.getElem?_toList] at hu
      exact hu) ad m c news hl hnews (by omega) h63 hbytes
    obtain ⟨ao, cap, rfl, hp⟩ := own_shape r1
    obtain ⟨g', rfl⟩ := hp (by omega)
    unfold Oper.wp
    simp [execOp, ho, resolve, invoke, builtin, hs, hx, hrun, Result.andThen]
    exact h g' cap w' (own_mono r1 (Nat.zero_le _)) (Kept.of_below (below_of_grown r2)) (.inr (World.ownsRow.lt r1 g' rfl).1)
end
/-- The refs of a level's nodes. -/
def refs (N : List Nd) (i : Int) : List Int := ((List.range N.length).filter fun j => decide ((N.getD j (0, [])).1 = i)).map fun (j : Nat) => (j : Int) + 2
theorem refs_mem {N : List Nd} {i f : Int} : f ∈ refs N i ↔ ∃ j, j < N.length ∧ (N.getD j (0, [])).1 = i ∧ f = (j : Int) + 2 := by
  unfold refs
  simp only [List.mem_map, List.mem_filter, List.mem_range, decide_eq_true_eq]
  exact ⟨fun ⟨j, ⟨h1, h2⟩, h3⟩ => ⟨j, h1, h2, h3.symm⟩, fun ⟨j, h1, h2, h3⟩ => ⟨j, ⟨h1, h2⟩, h3.symm⟩⟩
theorem refs_append (A B : List Nd) (i : Int) : ∃ T, refs (A ++ B) i = refs A i ++ T ∧ ∀ f ∈ T, (A.length : Int) + 2 ≤ f := by
  unfold refs
  rw [List.length_append, List.range_add, List.filter_append, List.map_append]
  have e1 : ((List.range A.length).filter fun j => decide (((A ++ B).getD j (0, [])).1 = i)) = (List.range A.length).filter fun j => decide ((A.getD j (0, [])).1 = i) := by
    apply List.filter_congr
    intro j hj
    rw [List.mem_range] at hj
    simp only [List.getD_eq_getElem?_getD]
    rw [List.getElem?_append_left hj]
  rw [e1]
  refine ⟨_, rfl, ?_⟩
  intro f hf
  simp only [List.mem_map, List.mem_filter, List.mem_range] at hf
  obtain ⟨j, ⟨⟨k, _, rfl⟩, _⟩, rfl⟩ := hf
  omega
theorem refs_snoc (N : List Nd) (x : Nd) (i : Int) : refs (N ++ [x]) i = if x.1 = i then refs N i ++ [(N.length : Int) + 2] else refs N i := by
  unfold refs
  rw [List.length_append, List.length_singleton, List.range_succ, List.filter_append, List.map_append]
  have e1 : ((List.range N.length).filter fun j => decide (((N ++ [x]).getD j (0, [])).1 = i)) = (List.range N.length).filter fun j => decide ((N.getD j (0, [])).1 = i) := by
    apply List.filter_congr
    intro j hj
    rw [List.mem_range] at hj
    simp only [List.getD_eq_getElem?_getD]
    rw [List.getElem?_append_left hj]
  rw [e1]
  by_cases h : x.1 = i
  · rw [if_pos h]
    simp [h]
  · rw [if_neg h]
    simp [h]
theorem refs_nil (i : Int) : refs [] i = [] := rfl
theorem refs_len (N : List Nd) (i : Int) : (refs N i).length ≤ N.length := by
  unfold refs
  rw [List.length_map]
  exact Nat.le_trans (List.length_filter_le _ _) (by simp)
/-- Those below a number are the first ones. -/
theorem refs_take (N : List Nd) (n : Nat) (hn : n ≤ N.length) (i : Int) : ∃ k, k ≤ (refs N i).length ∧ (refs N i).take k = refs (N.take n) i ∧ (∀ j, j < k → (refs N i).getD j 0 < (n : Int) + 2) ∧ (∀ j, k ≤ j → j < (refs N i).length → (n : Int) + 2 ≤ (refs N i).getD j 0) := by
  obtain ⟨T, h1, h2⟩ := refs_append (N.take n) (N.drop n) i
  rw [List.take_append_drop] at h1
  have hl : (N.take n).length = n := by rw [List.length_take]; omega
  rw [hl] at h2
  refine ⟨(refs (N.take n) i).length, by rw [h1, List.length_append]; omega, by rw [h1, List.take_left'] ; rfl, fun j hj => ?_, fun j hj hj2 => ?_⟩
  · rw [h1, List.getD_eq_getElem?_getD, List.getElem?_append_left hj, ← List.getD_eq_getElem?_getD]
    obtain ⟨q, hq, _, e⟩ := refs_mem.1 (getD_mem hj)
    rw [e]
    omega
  · rw [h1, List.length_append] at hj2
    rw [h1, List.getD_eq_getElem?_getD, List.getElem?_append_right hj, ← List.getD_eq_getElem?_getD]
    exact h2 _ (getD_mem (by omega))
end Go.Proofs.Ytnddhkhmbjeefaa
/-
  The document's arena in memory; its Has, Level, Len by their contracts. No condition.
-/
namespace Go.Proofs.Ytnddhkhmbjeefaa
open Go.RowKit Go.Lib Go.Maps

/-- The document's arena; P: the blocks that it has. -/
structure RAy (w : World) (x : Nat) (S : List Int) (M : Int) (R : List ND) (L : Nat → List Int) (P : Nat → Prop) (sb sc : Nat) (nv lv : Value) (LV : List Value) : Prop where
  blk : w.heap[x]? = some (.cells #[.slice (some ⟨sb, 0, none⟩) S.length sc, .int .i64 M, nv, lv] 65 (0, 0))
  sz : ZBk w sb S
  row : FRow w 86 2 nv R.length (ndC R)
  kid : ∀ y ∈ R, ZBk w y.kb y.ks
  lrow : w.ownsRow 0 22 1 lv S.length LV
  lists : ∀ i, i < S.length → FRow w 3 1 (LV.getD i (.slice none 0 0)) (L i).length (zC (L i))
  apart : ∀ i j, i < S.length → j < S.length → i ≠ j → ∀ k, (LV.getD i (.slice none 0 0)).ownBlock = some k → ¬ (LV.getD j (.slice none 0 0)).ownBlock = some k
  fix : ∀ i, i < S.length → ∀ k, (LV.getD i (.slice none 0 0)).ownBlock = some k → k ≠ sb ∧ ∀ y ∈ R, k ≠ y.kb
  px : P x
  ps : P sb
  pn : ∀ k, nv.ownBlock = some k → P k
  pl : ∀ k, lv.ownBlock = some k → P k
  pi : ∀ i, i < S.length → ∀ k, (LV.getD i (.slice none 0 0)).ownBlock = some k → P k
  pk : ∀ y ∈ R, P y.kb
  plt : ∀ k, P k → k < w.heap.size
  ok : Ok S M (R.map ND.nd)
/-- Each level's refs are those of its nodes. -/
abbrev RAx (w : World) (x : Nat) (S : List Int) (M : Int) (R : List ND) (P : Nat → Prop) (sb sc : Nat) (nv lv : Value) (LV : List Value) : Prop := RAy w x S M R (fun i => refs (R.map ND.nd) (i : Int)) P sb sc nv lv LV
def RA (w : World) (x : Nat) (S : List Int) (M : Int) (N : List Nd) (P : Nat → Prop) : Prop := ∃ R sb sc nv lv LV, RAx w x S M R P sb sc nv lv LV ∧ R.map ND.nd = N
section
variable {w w' : World} {x : Nat} {S : List Int} {M : Int} {R : List ND} {N : List Nd} {P F : Nat → Prop} {sb sc : Nat} {nv lv : Value} {LV : List Value} {L : Nat → List Int}
theorem RAy.kept (h : RAy w x S M R L P sb sc nv lv LV) (hk : Kept F w w') (hF : ∀ k, P k → ¬ F k) : RAy w' x S M R L P sb sc nv lv LV :=
  ⟨(hk.block x (h.plt x h.px) (hF x h.px)).trans h.blk, h.sz.kept hk (hF _ h.ps), h.row.kept hk (fun k hb => hF k (h.pn k hb)), fun y hy => (h.kid y hy).kept hk (hF _ (h.pk y hy)), own_kept h.lrow hk (fun k hb => hF k (h.pl k hb)), fun i hi => (h.lists i hi).kept hk (fun k hb => hF k (h.pi i hi k hb)), h.apart, h.fix, h.px, h.ps, h.pn, h.pl, h.pi, h.pk, fun k hp => Nat.lt_of_lt_of_le (h.plt k hp) hk.size, h.ok⟩
theorem RAy.below (h : RAy w x S M R L P sb sc nv lv LV) (y : Below w.heap.size w w') : RAy w' x S M R L P sb sc nv lv LV := h.kept (F := fun _ => False) (Kept.of_below y) (fun _ _ h => h)
theorem RA.kept (h : RA w x S M N P) (hk : Kept F w w') (hF : ∀ k, P k → ¬ F k) : RA w' x S M N P := by
  obtain ⟨R, sb, sc, nv, lv, LV, h1, h2⟩ := h
  exact ⟨R, sb, sc, nv, lv, LV, h1.kept hk hF, h2⟩
theorem RA.below (h : RA w x S M N P) (y : Below w.heap.size w w') : RA w' x S M N P := h.kept (F := fun _ => False) (Kept.of_below y) (fun _ _ h => h)
theorem RA.ok (h : RA w x S M N P) : Ok S M N := by
  obtain ⟨R, sb, sc, nv, lv, LV, h1, rfl⟩ := h
  exact h1.ok
theorem RA.plt (h : RA w x S M N P) {k : Nat} (hk : P k) : k < w.heap.size := by
  obtain ⟨R, sb, sc, nv, lv, LV, h1, rfl⟩ := h
  exact h1.plt k hk
theorem RAy.ra (h : RAy w x S M R (fun i => refs (R.map ND.nd) (i : Int)) P sb sc nv lv LV) : RA w x S M (R.map ND.nd) P := ⟨R, sb, sc, nv, lv, LV, h, rfl⟩
theorem RAy.cells (h : RAy w x S M R L P sb sc nv lv LV) : w.cell? ⟨x, 0, none⟩ = some (.slice (some ⟨sb, 0, none⟩) S.length sc) ∧ w.cell? ⟨x, 1, none⟩ = some (.int .i64 M) ∧ w.cell? ⟨x, 2, none⟩ = some nv ∧ w.cell? ⟨x, 3, none⟩ = some lv := by
  refine ⟨?_, ?_, ?_, ?_⟩ <;> (rw [cell_of_row w x _ _ _ _ h.blk]; rfl)
theorem RAy.few (h : RAy w x S M R L P sb sc nv lv LV) : R.length ≤ 8192 := by
  have h1 := h.ok.few
  have h2 := h.ok.m1
  rw [List.length_map] at h1
  omega
theorem RAy.node (h : RAy w x S M R L P sb sc nv lv LV) {g cap n : Nat} (hv : nv = .slice (some ⟨g, 0, none⟩) n cap) {i : Nat} (hi : i < R.length) : w.cell? ⟨g, i * 2, none⟩ = some (.int .i64 (R[i]).lv) ∧ w.cell? ⟨g, i * 2 + 1, none⟩ = some (.slice (some ⟨(R[i]).kb, 0, none⟩) (R[i]).ks.length (R[i]).kc) := by
  obtain ⟨g1, g2⟩ := ndC_get R i hi
  exact ⟨(h.row.cell hv (by omega)).trans g1, (h.row.cell hv (by omega)).trans g2⟩
/-- Where a level's refs lie. -/
theorem RAy.lcell (h : RAy w x S M R L P sb sc nv lv LV) {i : Nat} (hi : i < S.length) : ∃ g c, lv = .slice (some ⟨g, 0, none⟩) S.length c ∧ g < w.heap.size ∧ w.cell? ⟨g, i, none⟩ = some (LV.getD i (.slice none 0 0)) ∧ w.frozen? ⟨g, i, none⟩ = false := by
  obtain ⟨ao, c, rfl, hp⟩ := own_shape h.lrow
  obtain ⟨g, rfl⟩ := hp (by omega)
  have hl := h.lrow.1
  refine ⟨g, c, rfl, (World.ownsRow.lt h.lrow g rfl).2, ?_, h.lrow.frozenAt _⟩
  rw [World.ownsRow.cellAt h.lrow i (by omega), List.getD_eq_getElem?_getD, List.getElem?_eq_getElem (by omega)]
  rfl
set_option maxRecDepth 100000 in
theorem hasD_any (f : Int) (h : RAx w x S M R P sb sc nv lv LV) : Calls Try.prog 51 #[.pointer (some ⟨x, 0, none⟩), .int .i64 f] w fun e w' => e = .returned (.bool (hasN R.length f)) ∧ w' = w := by
  obtain ⟨c0, c1, c2, c3⟩ := h.cells
  have hf := h.few
  obtain ⟨ao, cap, rfl, _⟩ := h.row.shape
  have e1 : IntKind.i64.wrap ((R.length : Int) + 2) = (R.length : Int) + 2 := by simp [IntKind.wrap, IntKind.bits, IntKind.signed]; omega
  clear h
  generalize R.length = n at *
  by_cases h0 : 0 ≤ f
  · by_cases h1 : f < (n : Int) + 2
    · rw [show hasN n f = true by simp only [hasN, decide_eq_true h0, decide_eq_true h1, Bool.and_true]]
      go_enter Try.func51, Try.ntmps51
      go_wp2
      go_ret
      exact ⟨rfl, rfl⟩
    · rw [show hasN n f = false by simp only [hasN, decide_eq_false h1, Bool.and_false]]
      go_enter Try.func51, Try.ntmps51
      go_wp2
      go_ret
      exact ⟨rfl, rfl⟩
  · rw [show hasN n f = false by simp only [hasN, decide_eq_false h0, Bool.false_and]]
    go_enter Try.func51, Try.ntmps51
    go_wp2
    go_ret
    exact ⟨rfl, rfl⟩
set_option maxRecDepth 100000 in
theorem levelD_any (f : Int) (h : RAx w x S M R P sb sc nv lv LV) : Calls Try.prog 27 #[.pointer (some ⟨x, 0, none⟩), .int .i64 f] w fun e w' => e = .returned (.int .i64 (lvl S (R.map ND.nd) f)) ∧ w' = w := by
  obtain ⟨c0, c1, c2, c3⟩ := h.cells
  have hfw := h.few
  have e0 : IntKind.i64.wrap ((R.length : Int) + 2) = (R.length : Int) + 2 := by simp [IntKind.wrap, IntKind.bits, IntKind.signed]; omega
  by_cases hc : 2 ≤ f ∧ f < (R.length : Int) + 2
  · obtain ⟨i, hi, rfl, e⟩ := lvl_node (S := S) hc.1 hc.2
    rw [e]
    have hc1 : ¬ (i : Int) + 2 < 2 := by omega
    have hc2 : ¬ (R.length : Int) + 2 ≤ (i : Int) + 2 := by omega
    clear e hc
    obtain ⟨ao, cap, hv, hp, _⟩ := h.row.shape
    obtain ⟨g, rfl⟩ := hp (by omega)
    subst hv
    obtain ⟨d0, d1⟩ := h.node rfl hi
    have e1 : IntKind.i64.wrap ((i : Int) + 2 - 2) = (i : Int) := by simp [IntKind.wrap, IntKind.bits, IntKind.signed]; omega
    have hi' : (i : Int) < (R.length : Int) := by omega
    clear h hp d1
    generalize (R[i]).lv = lv' at *
    generalize R.length = n at *
    go_enter Try.func27, Try.ntmps27
    go_wp2
    go_ret
    exact ⟨rfl, rfl⟩
  · rw [lvl_none hc]
    obtain ⟨ao, cap, rfl, _⟩ := h.row.shape
    clear h
    generalize R.length = n at *
    by_cases h1 : f < 2
    · go_enter Try.func27, Try.ntmps27
      go_wp2
      go_ret
      exact ⟨rfl, rfl⟩
    · have h2 : (n : Int) + 2 ≤ f := by omega
      clear hc
      go_enter Try.func27, Try.ntmps27
      go_wp2
      go_ret
      exact ⟨rfl, rfl⟩
set_option maxRecDepth 100000 in
theorem lenD_any (h : RAx w x S M R P sb sc nv lv LV) : Calls Try.prog 26 #[.pointer (some ⟨x, 0, none⟩)] w fun e w' => e = .returned (.int .i64 (R.length : Int)) ∧ w' = w := by
  obtain ⟨c0, c1, c2, c3⟩ := h.cells
  obtain ⟨ao, cap, rfl, _⟩ := h.row.shape
  clear h
  go_enter Try.func26, Try.ntmps26
  go_wp2
  go_ret
  exact ⟨rfl, rfl⟩
end
end Go.Proofs.Ytnddhkhmbjeefaa
