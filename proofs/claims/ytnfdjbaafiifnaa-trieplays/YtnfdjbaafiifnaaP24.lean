/-
  A list of rows that is lent: a copy of it, and three behind it. Condition: the list is no longer than a process can hold.
-/
import Derived.Test.YtnfdjbaafiifnaaP23
import Derived.Laws.CopyOwn
namespace Go.Proofs.Ytnfdjbaafiifnaa
open Go.RowKit Go.Lib

theorem run_copy_wide {P : Program} (w : World) (dT sT ty elem : TypeId) (size g o dLen dCap : Nat) (a : Addr) (sLen sCap : Nat) (cur : Array Value) (t : TypeId) (cs : List Value)
    (hu : P.underlying dT = some (.slice elem)) (hs : (P.info? elem).map (·.size) = some size)
    (hg : w.heap[g]? = some (.cells cur t (0, 0))) (hn : cs.length = Nat.min sLen dLen * size)
    (hsrc : ∀ j v, cs[j]? = some v → w.cell? (a.add j) = some v) (hfit : o + cs.length ≤ cur.size) (h1 : ∀ v ∈ cs, v.oneCell' = true) :
    (Builtin.copy_ #[dT, sT] ty #[.slice (some ⟨g, o, none⟩) dLen dCap, .slice (some a) sLen sCap]).run P w =
      .ok (goInt (Nat.min sLen dLen)) (w.setRow g (cur.toList.take o ++ cs ++ cur.toList.drop (o + cs.length)).toArray) := by
  have hl := run_loadCells_list (P := P) w a cs hsrc
  have hst := run_storeCells_at P g o t cs 0 cur w hg (by simpa using hfit) h1
  cases hq : P.info? elem with
  | none => simp [hq] at hs
  | some i =>
    have hi : i.size = size := by simpa [hq] using hs
    simp only [Nat.add_zero] at hst
    simp [Builtin.copy_, run_underlying hu, Builtin.lenOf, Builtin.firstCells, sizeOf, typeInfo, hq, hi, ← hn, hl, hst]
theorem run_copy_empty {P : Program} (w : World) (dT sT ty elem : TypeId) (size : Nat) (a : Addr) (dLen dCap sCap : Nat) (hu : P.underlying dT = some (.slice elem)) (hs : (P.info? elem).map (·.size) = some size) :
    (Builtin.copy_ #[dT, sT] ty #[.slice (some a) dLen dCap, .slice none 0 sCap]).run P w = .ok (goInt 0) w := by
  cases hq : P.info? elem with
  | none => simp [hq] at hs
  | some i => simp [Builtin.copy_, run_underlying hu, Builtin.lenOf, Builtin.firstCells, sizeOf, typeInfo, hq, storeCells]
theorem wpList_copy_wide {P : Program} {w : World} {ops : Array Oper} {rest : List Oper} {o : Oper} {a : Act} {Q : Exit → Act → World → Prop} (hgd : o.guard = none) (d s : Operand) (dT sT : TypeId)
    (ho : o.op = .call { callee := .builtin .copy, args := #[d, s], argTypes := #[dT, sT] }) (elem : TypeId) (size : Nat) (hu : P.underlying dT = some (.slice elem)) (hsz : (P.info? elem).map (·.size) = some size)
    (g dLen dCap : Nat) (sp : Option Addr) (sLen sCap : Nat) (hd : a.eval d = .slice (some ⟨g, 0, none⟩) dLen dCap) (hs : a.eval s = .slice sp sLen sCap)
    (cur : Array Value) (t : TypeId) (hg : w.heap[g]? = some (.cells cur t (0, 0))) (cs : List Value) (hn : cs.length = sLen * size) (hle : sLen ≤ dLen) (hnil : sp = none → sLen = 0)
    (hsrc : ∀ ad, sp = some ad → ∀ j v, cs[j]? = some v → w.cell? (ad.add j) = some v) (hfit : cs.length ≤ cur.size) (h1 : ∀ v ∈ cs, v.oneCell' = true)
    (h : wpList P ops Q rest (a.put o.dst (goInt sLen)) (w.setRow g (cs ++ cur.toList.drop cs.length).toArray)) : wpList P ops Q (o :: rest) a w := by
  refine wpList_plain hgd fun K hK => ?_
  have hrun : (Builtin.copy_ #[dT, sT] o.type #[.slice (some ⟨g, 0, none⟩) dLen dCap, .slice sp sLen sCap]).run P w = .ok (goInt sLen) (w.setRow g (cs ++ cur.toList.drop cs.length).toArray) := by
    cases sp with
    | none =>
      have h0 := hnil rfl
      subst h0
      have hc : cs = [] := List.length_eq_zero_iff.1 (by omega)
      subst hc
      rw [run_copy_empty w dT sT o.type elem size _ dLen dCap sCap hu hsz]
      simp only [List.nil_append, List.length_nil, List.drop_zero, Array.toArray_toList]
      rw [setRow_self w g cur t (0, 0) hg]
      rfl
    | some ad =>
      have hmin : Nat.min sLen dLen = sLen := Nat.min_eq_left hle
      have := run_copy_wide (P := P) w dT sT o.type elem size g 0 dLen dCap ad sLen sCap cur t cs hu hsz hg (by rw [hmin]; exact hn) (hsrc ad rfl) (by omega) h1
      rw [this, hmin]
      simp
  unfold Oper.wp
  simp [execOp, ho, resolve, invoke, builtin, hd, hs, hrun, Result.andThen]
  exact hK _ _ h

def rzCells (L : List RZ) : List Value := L.flatMap fun r => [.int .i64 r.1.1, .int .i64 r.1.2, .int .i64 r.2]
theorem rzCells_cons (r : RZ) (L : List RZ) : rzCells (r :: L) = .int .i64 r.1.1 :: .int .i64 r.1.2 :: .int .i64 r.2 :: rzCells L := by simp [rzCells]
theorem rzCells_append (L M : List RZ) : rzCells (L ++ M) = rzCells L ++ rzCells M := by simp [rzCells]
theorem rzCells_length (L : List RZ) : (rzCells L).length = L.length * 3 := by
  induction L with
  | nil => rfl
  | cons r L ih => rw [rzCells_cons]; simp only [List.length_cons]; omega
theorem rzCells_one (L : List RZ) : ∀ v ∈ rzCells L, v.oneCell' = true := by
  intro v hv
  unfold rzCells at hv
  obtain ⟨r, _, h⟩ := List.mem_flatMap.1 hv
  simp only [List.mem_cons, List.not_mem_nil, or_false] at h
  rcases h with rfl | rfl | rfl <;> rfl
theorem rzCells_get (L : List RZ) (i : Nat) (h : i < L.length) : (rzCells L)[i * 3]? = some (.int .i64 (L.getD i ((0, 0), 0)).1.1) ∧ (rzCells L)[i * 3 + 1]? = some (.int .i64 (L.getD i ((0, 0), 0)).1.2) ∧ (rzCells L)[i * 3 + 2]? = some (.int .i64 (L.getD i ((0, 0), 0)).2) := by
  induction L generalizing i with
  | nil => simp at h
  | cons r L ih =>
    rw [rzCells_cons]
    cases i with
    | zero => simp
    | succ i =>
      have := ih i (by simpa using h)
      rw [show (i + 1) * 3 = i * 3 + 3 by omega]
      simpa using this
theorem RwAt.cellsR {w : World} {ad : Addr} {L : List RZ} (h : RwAt w (some ad) L) : ∀ j v, (rzCells L)[j]? = some v → w.cell? (ad.add j) = some v := by
  intro j v hv
  rcases h with rfl | ⟨b, off, e, _, h⟩
  · simp [rzCells] at hv
  · cases e
    have hj : j < L.length * 3 := by
      rw [← rzCells_length]
      exact (List.getElem?_eq_some_iff.1 hv).1
    obtain ⟨g0, g1, g2⟩ := rzCells_get L (j / 3) (by omega)
    obtain ⟨c0, c1, c2⟩ := h (j / 3) (by omega)
    have ha : (⟨b, off, none⟩ : Addr).add j = ⟨b, off + j, none⟩ := by simp [Addr.add]
    rw [ha]
    rcases (by omega : j = j / 3 * 3 ∨ j = j / 3 * 3 + 1 ∨ j = j / 3 * 3 + 2) with e | e | e
    · rw [e] at hv ⊢
      rw [← hv, g0]; exact c0
    · rw [e] at hv ⊢
      rw [← hv, g1]; exact c1
    · rw [e] at hv ⊢
      rw [← hv, g2]; exact c2
theorem madeR_zero (n : Nat) : (madeCells (Value.agg #[.int .i64 0, .int .i64 0, .int .i64 0]).cells (n * 3)).toList = rzCells (List.replicate n ((0, 0), 0)) := by
  have e : (Value.agg #[.int .i64 0, .int .i64 0, .int .i64 0]).cells = #[.int .i64 0, .int .i64 0, .int .i64 0] := by simp [Value.cells]
  rw [e]
  apply List.ext_getElem?
  intro j
  by_cases hj : j < n * 3
  · have h1 : (madeCells #[Value.int .i64 0, .int .i64 0, .int .i64 0] (n * 3)).toList[j]? = some (.int .i64 0) := by
      have : j % 3 = 0 ∨ j % 3 = 1 ∨ j % 3 = 2 := by omega
      rcases this with h | h | h <;> simp [madeCells, hj, h]
    rw [h1]
    have h2 := rzCells_get (List.replicate n (((0, 0), 0) : RZ)) (j / 3) (by rw [List.length_replicate]; omega)
    have e2 : (List.replicate n (((0, 0), 0) : RZ)).getD (j / 3) ((0, 0), 0) = ((0, 0), 0) := by
      simp [List.getD_eq_getElem?_getD, List.getElem?_replicate]; split <;> rfl
    rw [e2] at h2
    rcases (by omega : j = j / 3 * 3 ∨ j = j / 3 * 3 + 1 ∨ j = j / 3 * 3 + 2) with h | h | h
    · rw [h]; exact h2.1.symm
    · rw [h]; exact h2.2.1.symm
    · rw [h]; exact h2.2.2.symm
  · rw [List.getElem?_eq_none (by simp [size_madeCells]; omega), List.getElem?_eq_none (by rw [rzCells_length, List.length_replicate]; omega)]
theorem full_cur3 {w : World} {base g n : Nat} {xs : List Value} (h : w.ownsRow base 65 3 (.slice (some ⟨g, 0, none⟩) n n) n xs) : ∃ cur, w.heap[g]? = some (.cells cur 65 (0, 0)) ∧ cur.toList = xs ∧ base ≤ g ∧ n ≤ maxLen := by
  rcases h.2 with ⟨h', _⟩ | ⟨g', cap', cur, h', hb, hg, hnc, hcm, hcs, htake⟩
  · simp at h'
  · simp only [Value.slice.injEq, Option.some.injEq, Addr.mk.injEq, and_true, true_and] at h'
    obtain ⟨rfl, rfl⟩ := h'
    exact ⟨cur, hg, by rw [← htake, List.take_of_length_le (by simp; omega)], hb, hcm⟩
def OwnZ3 (w : World) (base : Nat) (v : Value) (L : List RZ) : Prop := w.ownsRow base 65 3 v L.length (rzCells L)
theorem own_set3 {w : World} {base g n : Nat} {L' : List RZ} {cur : Array Value} (hg : w.heap[g]? = some (.cells cur 65 (0, 0))) (hb : base ≤ g) (hn : L'.length = n) (hm : n ≤ maxLen) : OwnZ3 (w.setRow g (rzCells L').toArray) base (.slice (some ⟨g, 0, none⟩) n n) L' := by
  unfold OwnZ3
  rw [hn]
  exact ⟨by rw [rzCells_length, hn], .inr ⟨g, n, (rzCells L').toArray, rfl, hb, setRow_heap w g cur _ 65 _ hg, Nat.le_refl _, hm, by simp [rzCells_length, hn], by simp [List.take_of_length_le, rzCells_length, hn]⟩⟩
theorem Try.size65 : (Try.prog.info? 65).map (·.size) = some 3 := by
  obtain ⟨i0, hi, hz0, hz1, hz2⟩ := info_parts Try.info65
  rw [hi]; simp [hz1]
/-- The list, and three behind it. -/
def lenR (L : List RZ) : List RZ := L ++ List.replicate 3 ((0, 0), 0)
theorem lenR_length (L : List RZ) : (lenR L).length = L.length + 3 := by simp [lenR]
theorem lenR_copied {w w1 : World} {ao : Option Addr} {L : List RZ} (hat : RwAt w ao L) (h1 : w1.ownsRow w.heap.size 65 3 (.slice (some ⟨w.heap.size, 0, none⟩) (L.length + 3) (L.length + 3)) (L.length + 3) (madeCells (Value.agg #[.int .i64 0, .int .i64 0, .int .i64 0]).cells ((L.length + 3) * 3)).toList) (h2 : w.grownBy w1 none) :
    ∃ cur : Array Value, w1.heap[w.heap.size]? = some (.cells cur 65 (0, 0)) ∧ (∀ ad, ao = some ad → ∀ j v, (rzCells L)[j]? = some v → w1.cell? (ad.add j) = some v) ∧ (ao = none → L.length = 0) ∧ (rzCells L).length ≤ cur.size ∧
      OwnZ3 (w1.setRow w.heap.size (rzCells L ++ cur.toList.drop (rzCells L).length).toArray) w.heap.size (.slice (some ⟨w.heap.size, 0, none⟩) (L.length + 3) (L.length + 3)) (lenR L) ∧ Below w.heap.size w (w1.setRow w.heap.size (rzCells L ++ cur.toList.drop (rzCells L).length).toArray) := by
  obtain ⟨cur, hg, hc, hb, hm⟩ := full_cur3 h1
  rw [madeR_zero] at hc
  have hbl : Below w.heap.size w w1 := (Below.refl _ _).grown h2 (Nat.le_refl _) (fun k hk => by cases hk)
  have e : rzCells L ++ cur.toList.drop (rzCells L).length = rzCells (lenR L) := by
    unfold lenR
    rw [hc, rzCells_append, ← List.replicate_append_replicate, rzCells_append, rzCells_length]
    rw [List.drop_append_of_le_length (by rw [rzCells_length, List.length_replicate]; omega), List.drop_of_length_le (by rw [rzCells_length, List.length_replicate]; omega)]
    rfl
  refine ⟨cur, hg, fun ad h => by subst h; exact (hat.below hbl).cellsR, fun h => ?_, ?_, ?_, below_setRow hbl (Nat.le_refl _) _⟩
  · subst h
    rcases hat with h | ⟨b, off, e, _⟩
    · rw [h]; rfl
    · cases e
  · have := congrArg List.length hc
    rw [rzCells_length, List.length_replicate, Array.length_toList] at this
    rw [rzCells_length]; omega
  · rw [e]
    exact own_set3 hg hb (lenR_length L) hm
theorem OwnZ3.at {w : World} {base g n cap : Nat} {L : List RZ} (h : OwnZ3 w base (.slice (some ⟨g, 0, none⟩) n cap) L) : RwAt w (some ⟨g, 0, none⟩) L := by
  obtain ⟨_, _, e, _⟩ := own_shape h
  injection e with _ e _
  subst e
  by_cases h0 : L.length = 0
  · exact .inl (List.eq_nil_of_length_eq_zero h0)
  · have hl := (World.ownsRow.lt h g rfl).2
    refine .inr ⟨g, 0, rfl, hl, fun i hi => ?_⟩
    obtain ⟨g0, g1, g2⟩ := rzCells_get L i hi
    rw [Nat.zero_add, World.ownsRow.cellAt h (i * 3) (by omega), World.ownsRow.cellAt h (i * 3 + 1) (by omega), World.ownsRow.cellAt h (i * 3 + 2) (by omega)]
    exact ⟨g0, g1, g2⟩
theorem RwAt.take {w : World} {b off : Nat} {L : List RZ} (h : RwAt w (some ⟨b, off, none⟩) L) (m : Nat) : RwAt w (some ⟨b, off, none⟩) (L.take m) := by
  rcases h with rfl | ⟨b', off', e, hlt, h⟩
  · exact .inl (by simp)
  · cases e
    refine .inr ⟨b, off, rfl, hlt, fun i hi => ?_⟩
    rw [List.length_take] at hi
    have := h i (by omega)
    rwa [show (L.take m).getD i ((0, 0), 0) = L.getD i ((0, 0), 0) by simp [List.getD_eq_getElem?_getD, show i < m by omega]]
theorem lenR_at {w : World} {base g n : Nat} {L : List RZ} (h : OwnZ3 w base (.slice (some ⟨g, 0, none⟩) n n) (lenR L)) : RwAt w (some ⟨g, 0, none⟩) L := by
  have := h.at.take L.length
  rwa [show (lenR L).take L.length = L by simp [lenR]] at this
/-- The first k struck. -/
def struckR (L : List RZ) (k : Nat) : List RZ := List.replicate k ((0, 0), 9) ++ (lenR L).drop k
theorem struckR_length (L : List RZ) (k : Nat) (hk : k ≤ L.length + 3) : (struckR L k).length = L.length + 3 := by
  unfold struckR
  rw [List.length_append, List.length_replicate, List.length_drop, lenR_length]
  omega
theorem struckR_zero (L : List RZ) : struckR L 0 = lenR L := by simp [struckR]
theorem struckR_get (L : List RZ) (k : Nat) (hk : k < L.length + 3) : (struckR L k).getD k ((0, 0), 0) = L.getD k ((0, 0), 0) := by
  unfold struckR
  rw [List.getD_eq_getElem?_getD, List.getElem?_append_right (by simp), List.length_replicate, Nat.sub_self, List.getElem?_drop, Nat.add_zero]
  unfold lenR
  by_cases h : k < L.length
  · rw [List.getElem?_append_left h, List.getD_eq_getElem?_getD]
  · rw [List.getElem?_append_right (by omega), List.getD_eq_getElem?_getD, List.getElem?_eq_none (by omega : L.length ≤ k)]
    rw [List.getElem?_replicate]
    split <;> rfl
theorem struckR_set (L : List RZ) (k : Nat) (hk : k < L.length + 3) : (((rzCells (struckR L k)).set (k * 3) (.int .i64 0)).set (k * 3 + 1) (.int .i64 0)).set (k * 3 + 2) (.int .i64 9) = rzCells (struckR L (k + 1)) := by
  have hl := lenR_length L
  have e1 : (lenR L).drop k = (lenR L)[k]'(by omega) :: (lenR L).drop (k + 1) := List.drop_eq_getElem_cons (by omega)
  have e2 : struckR L (k + 1) = List.replicate k ((0, 0), 9) ++ ((0, 0), 9) :: (lenR L).drop (k + 1) := by
    unfold struckR
    rw [List.replicate_succ', List.append_assoc]
    rfl
  have hc : (rzCells (List.replicate k (((0, 0), 9) : RZ))).length = k * 3 := by rw [rzCells_length, List.length_replicate]
  rw [e2]
  unfold struckR
  rw [e1, rzCells_append, rzCells_append, List.set_append_right _ _ (by omega), List.set_append_right _ _ (by omega), List.set_append_right _ _ (by omega), hc]
  rw [Nat.sub_self, show k * 3 + 1 - k * 3 = 1 by omega, show k * 3 + 2 - k * 3 = 2 by omega]
  rfl
end Go.Proofs.Ytnfdjbaafiifnaa
