/-
  The statements' lent by its contract. Condition: there are at most 2^32 pieces, and as many spans.
-/
import Derived.Test.YtaiijdnfimclbaaLn0
namespace Go.Proofs.Ytaiijdnfimclbaa
open Go.RowKit Go.Lib

theorem full_row {w : World} {base g n sz T : Nat} {xs : List Value} (h : w.ownsRow base T sz (.slice (some ⟨g, 0, none⟩) n n) n xs) : ∃ cur, w.heap[g]? = some (.cells cur T (0, 0)) ∧ cur.toList = xs := by
  rcases h.2 with ⟨h', _⟩ | ⟨g', cap', cur, h', hb, hg, hnc, hcm, hcs, htake⟩
  · simp at h'
  · simp only [Value.slice.injEq, Option.some.injEq, Addr.mk.injEq, and_true, true_and] at h'
    obtain ⟨rfl, rfl⟩ := h'
    exact ⟨cur, hg, by rw [← htake, List.take_of_length_le (by rw [Array.length_toList, hcs]; exact Nat.le_refl _)]⟩
theorem made_spans (n : Nat) : (madeCells (Value.agg #[.int .i64 0, .int .i64 0]).cells (n * 2)).toList = spCells (List.replicate n (0, 0)) := by
  have e : (Value.agg #[.int .i64 0, .int .i64 0]).cells = #[.int .i64 0, .int .i64 0] := by simp [Value.cells]
  rw [e]
  apply List.ext_getElem?
  intro j
  by_cases hj : j < n * 2
  · have h1 : (madeCells #[Value.int .i64 0, .int .i64 0] (n * 2)).toList[j]? = some (.int .i64 0) := by
      have : j % 2 = 0 ∨ j % 2 = 1 := by omega
      rcases this with h | h <;> simp [madeCells, hj, h]
    rw [h1]
    have h2 := spCells_get (List.replicate n ((0, 0) : Spn)) (j / 2) (by rw [List.length_replicate]; omega)
    have e2 : (List.replicate n ((0, 0) : Spn)).getD (j / 2) (0, 0) = (0, 0) := by
      simp [List.getD_eq_getElem?_getD, List.getElem?_replicate]; split <;> rfl
    rw [e2] at h2
    rcases (by omega : j = j / 2 * 2 ∨ j = j / 2 * 2 + 1) with h | h
    · rw [h]; exact h2.1.symm
    · rw [h]; exact h2.2.symm
  · rw [List.getElem?_eq_none (by simp [size_madeCells]; omega), List.getElem?_eq_none (by rw [spCells_length, List.length_replicate]; omega)]
def zD : PD := ⟨⟨0, 0, false, []⟩, none, 0⟩
theorem made_pieces (n : Nat) : (madeCells (Value.agg #[.int .i64 0, .int .i64 0, .bool false, .slice none 0 0]).cells ((n + 1) * 4)).toList = pdCells (List.replicate n zD) ++ tl 0 := by
  have e : (Value.agg #[.int .i64 0, .int .i64 0, .bool false, .slice none 0 0]).cells = #[.int .i64 0, .int .i64 0, .bool false, .slice none 0 0] := by simp [Value.cells]
  have e2 : pdCells (List.replicate n zD) ++ tl 0 = pdCells (List.replicate (n + 1) zD) := by
    rw [List.replicate_succ', pdCells_append]
    rfl
  rw [e, e2]
  generalize n + 1 = m
  apply List.ext_getElem?
  intro j
  by_cases hj : j < m * 4
  · have hr : j / 4 < (List.replicate m zD).length := by rw [List.length_replicate]; omega
    obtain ⟨g0, g1, g2, g3⟩ := pdCells_get (List.replicate m zD) (j / 4) hr
    rw [List.getElem_replicate] at g0 g1 g2 g3
    have h4 : j = j / 4 * 4 ∨ j = j / 4 * 4 + 1 ∨ j = j / 4 * 4 + 2 ∨ j = j / 4 * 4 + 3 := by omega
    rcases h4 with h | h | h | h
    · have h1 : j % 4 = 0 := by omega
      have : (madeCells #[Value.int .i64 0, .int .i64 0, .bool false, .slice none 0 0] (m * 4)).toList[j]? = some (.int .i64 0) := by simp [madeCells, hj, h1]
      rw [this, h]; exact g0.symm
    · have h1 : j % 4 = 1 := by omega
      have : (madeCells #[Value.int .i64 0, .int .i64 0, .bool false, .slice none 0 0] (m * 4)).toList[j]? = some (.int .i64 0) := by simp [madeCells, hj, h1]
      rw [this, h]; exact g1.symm
    · have h1 : j % 4 = 2 := by omega
      have : (madeCells #[Value.int .i64 0, .int .i64 0, .bool false, .slice none 0 0] (m * 4)).toList[j]? = some (.bool false) := by simp [madeCells, hj, h1]
      rw [this, h]; exact g2.symm
    · have h1 : j % 4 = 3 := by omega
      have : (madeCells #[Value.int .i64 0, .int .i64 0, .bool false, .slice none 0 0] (m * 4)).toList[j]? = some (.slice none 0 0) := by simp [madeCells, hj, h1]
      rw [this, h]; exact g3.symm
  · rw [List.getElem?_eq_none (by simp [size_madeCells]; omega), List.getElem?_eq_none (by rw [pdCells_length, List.length_replicate]; omega)]
theorem Try.size59 : (Try.prog.info? 59).map (·.size) = some 2 := by
  obtain ⟨i0, hi, hz0, hz1, hz2⟩ := Try.info59'
  rw [hi]; simp [hz1]
theorem Try.size44 : (Try.prog.info? 44).map (·.size) = some 4 := by
  obtain ⟨i0, hi, hz0, hz1, hz2⟩ := info_parts Try.info44
  rw [hi]; simp [hz1]
/-- A set, made anew and copied. -/
theorem set_copied {wr w1 : World} {L : List Spn} (h1 : w1.ownsRow wr.heap.size 59 2 (.slice (some ⟨wr.heap.size, 0, none⟩) (L.length + 1) (L.length + 1)) (L.length + 1) (madeCells (Value.agg #[.int .i64 0, .int .i64 0]).cells ((L.length + 1) * 2)).toList) (h2 : wr.grownBy w1 none) :
    ∃ cur : Array Value, w1.heap[wr.heap.size]? = some (.cells cur 59 (0, 0)) ∧ (spCells L).length ≤ cur.size ∧ Below wr.heap.size wr w1 ∧
      (w1.setRow wr.heap.size (spCells L ++ cur.toList.drop (spCells L).length).toArray).heap[wr.heap.size]? = some (.cells (spCells L ++ [Value.int .i64 0, Value.int .i64 0]).toArray 59 (0, 0)) ∧ Below wr.heap.size wr (w1.setRow wr.heap.size (spCells L ++ cur.toList.drop (spCells L).length).toArray) := by
  obtain ⟨cur, hg, hc⟩ := full_row h1
  rw [made_spans] at hc
  have hbl : Below wr.heap.size wr w1 := (Below.refl _ _).grown h2 (Nat.le_refl _) (fun k hk => by cases hk)
  have e : spCells L ++ cur.toList.drop (spCells L).length = spCells L ++ [Value.int .i64 0, Value.int .i64 0] := by
    rw [hc, List.replicate_succ', spCells_append, spCells_length, List.drop_append_of_le_length (by rw [spCells_length, List.length_replicate]; exact Nat.le_refl _), List.drop_of_length_le (by rw [spCells_length, List.length_replicate]; exact Nat.le_refl _)]
    rfl
  refine ⟨cur, hg, ?_, hbl, ?_, below_setRow hbl (Nat.le_refl _) _⟩
  · have := congrArg List.length hc
    rw [spCells_length, List.length_replicate, Array.length_toList] at this
    rw [spCells_length]; omega
  · rw [← e]
    exact setRow_heap _ _ _ _ _ _ hg
/-- .. and one more behind it. -/
theorem set_marked {w2 : World} {b : Nat} {L : List Spn} (h : w2.heap[b]? = some (.cells (spCells L ++ [Value.int .i64 0, Value.int .i64 0]).toArray 59 (0, 0))) {wr : World} (x : Below wr.heap.size wr w2) (hb : wr.heap.size ≤ b) :
    L.length * 2 + 2 ≤ (spCells L ++ [Value.int .i64 0, Value.int .i64 0]).toArray.size ∧ (w2.setRow b ((spCells L ++ [Value.int .i64 0, Value.int .i64 0]).toArray.toList.take (L.length * 2) ++ (#[Value.int .i64 (-77), Value.int .i64 0] : Array Value).toList ++ (spCells L ++ [Value.int .i64 0, Value.int .i64 0]).toArray.toList.drop (L.length * 2 + (#[Value.int .i64 (-77), Value.int .i64 0] : Array Value).size)).toArray).heap[b]? = some (.cells (spCells L ++ [Value.int .i64 (-77), Value.int .i64 0]).toArray 59 (0, 0)) ∧
      Below wr.heap.size wr (w2.setRow b ((spCells L ++ [Value.int .i64 0, Value.int .i64 0]).toArray.toList.take (L.length * 2) ++ (#[Value.int .i64 (-77), Value.int .i64 0] : Array Value).toList ++ (spCells L ++ [Value.int .i64 0, Value.int .i64 0]).toArray.toList.drop (L.length * 2 + (#[Value.int .i64 (-77), Value.int .i64 0] : Array Value).size)).toArray) := by
  have hn := spCells_length L
  refine ⟨by simp [hn], ?_, below_setRow x hb _⟩
  rw [setRow_heap _ _ _ _ _ _ h]
  congr 2
  rw [List.toList_toArray, List.take_left' hn, List.drop_of_length_le (by simp [hn])]
  simp
theorem row_put {E : List PD} {i : Nat} (h : i < E.length) (d : PD) (t : Int) : ((pdCells E ++ tl t).toArray.toList.take (i * 4) ++ (#[.int .i64 d.p.kind, .int .i64 d.p.b, .bool d.p.no, .slice d.so d.p.set.length d.sc] : Array Value).toList ++ (pdCells E ++ tl t).toArray.toList.drop (i * 4 + (#[.int .i64 d.p.kind, .int .i64 d.p.b, .bool d.p.no, .slice d.so d.p.set.length d.sc] : Array Value).size)).toArray = (pdCells (E.set i d) ++ tl t).toArray := by
  rw [List.toList_toArray, ← pdCells_put E i h d]
  rfl
theorem row_size (E : List PD) (t : Int) : (pdCells E ++ tl t).toArray.size = E.length * 4 + 4 := by simp [pdCells_length, tl]
/-- .. and its set. -/
theorem LnS.fin {w : World} {g : Nat} {D F : List PD} {k : Nat} {t : Int} {W : World} (h : LnS w g D F k t W) (hk : k < D.length) (hF : k < F.length) (hp : F[k].p = D[k].p) {b : Nat} (hb : g < b) (hB : W.heap[b]? = some (.cells (spCells D[k].p.set ++ [Value.int .i64 (-77), Value.int .i64 0]).toArray 59 (0, 0))) :
    LnS w g D (F.set k ⟨D[k].p, some ⟨b, 0, none⟩, D[k].p.set.length + 1⟩) (k + 1) t (W.setCell ⟨g, k * 4 + 3, none⟩ (.slice (some ⟨b, 0, none⟩) D[k].p.set.length (D[k].p.set.length + 1))) := by
  have hk2 : Kept (fun i => i = g) W (W.setCell ⟨g, k * 4 + 3, none⟩ (.slice (some ⟨b, 0, none⟩) D[k].p.set.length (D[k].p.set.length + 1))) := Kept.setCell (F := fun i => i = g) (p := ⟨g, k * 4 + 3, none⟩) (Kept.refl _ _) rfl _
  refine ⟨by rw [List.length_set]; exact h.len, ?_, fun i a b' c => ?_, h.bel.trans (hk2.below (Nat.le_of_lt (lt_of_block h.row)) (fun i hi => by omega))⟩
  · have h1 := block_setCell h.row (k * 4 + 3) (.slice (some ⟨b, 0, none⟩) D[k].p.set.length (D[k].p.set.length + 1))
    have h2 := pdCells_setv F k hF (some ⟨b, 0, none⟩) (D[k].p.set.length + 1) (tl t)
    rw [hp] at h2
    rw [← h2]
    simpa using h1
  · rw [List.length_set] at a
    by_cases hi : i = k
    · subst hi
      have e : (F.set i ⟨D[i].p, some ⟨b, 0, none⟩, D[i].p.set.length + 1⟩)[i]'(by rwa [List.length_set]) = ⟨D[i].p, some ⟨b, 0, none⟩, D[i].p.set.length + 1⟩ := by rw [List.getElem_set, if_pos rfl]
      rw [e]
      exact ⟨rfl, b, rfl, hb, (hk2.block _ (lt_of_block hB) (by omega)).trans hB, rfl⟩
    · have e : (F.set k ⟨D[k].p, some ⟨b, 0, none⟩, D[k].p.set.length + 1⟩)[i]'(by rwa [List.length_set]) = F[i] := by rw [List.getElem_set, if_neg (by omega)]
      rw [e]
      exact ⟨(h.done i a b' (by omega)).1, (h.done i a b' (by omega)).2.kept hk2⟩
theorem LnS.tail {w : World} {g : Nat} {D E : List PD} {k : Nat} {t : Int} {W : World} (h : LnS w g D E k t W) : W.cell? ⟨g, D.length * 4, none⟩ = some (.int .i64 t) ∧ W.frozen? ⟨g, D.length * 4, none⟩ = false ∧ LnS w g D E k (-77) (W.setCell ⟨g, D.length * 4, none⟩ (.int .i64 (-77))) := by
  have hk2 : Kept (fun i => i = g) W (W.setCell ⟨g, D.length * 4, none⟩ (.int .i64 (-77))) := Kept.setCell (F := fun i => i = g) (p := ⟨g, D.length * 4, none⟩) (Kept.refl _ _) rfl _
  have hl : (pdCells E).length = D.length * 4 := by rw [pdCells_length, h.len]
  refine ⟨?_, frozen_of_row _ _ _ _ _ h.row, h.len, ?_, fun i a b c => ⟨(h.done i a b c).1, (h.done i a b c).2.kept hk2⟩, h.bel.trans (hk2.below (Nat.le_of_lt (lt_of_block h.row)) (fun i hi => by omega))⟩
  · rw [cell_of_row _ _ _ _ _ _ h.row]
    simp only [List.getElem?_toArray]
    rw [List.getElem?_append_right (by rw [hl]; exact Nat.le_refl _), hl, Nat.sub_self]
    rfl
  · have h1 := block_setCell h.row (D.length * 4) (.int .i64 (-77))
    have h2 : (pdCells E ++ tl t).set (D.length * 4) (.int .i64 (-77)) = pdCells E ++ tl (-77) := by
      rw [List.set_append_right _ _ (by rw [hl]; exact Nat.le_refl _), hl, Nat.sub_self]
      rfl
    rw [← h2]
    simpa using h1
set_option maxRecDepth 100000 in
set_option maxHeartbeats 8000000 in
theorem lent_any (ao : Option Addr) (cap : Nat) (D : List PD) (w : World) (hl : D.length ≤ 4294967296) (hLen : ∀ d ∈ D, d.p.set.length ≤ 4294967296) (hat : PcAt w ao D) :
    Calls Try.prog 16 #[.slice ao D.length cap] w fun e w' => e = .returned (.slice (some ⟨w.heap.size, 0, none⟩) D.length (D.length + 1)) ∧ ∃ E, LnS w w.heap.size D E D.length (-77) w' := by
  obtain ⟨i44, hj, hy0, hy1, hy2⟩ := info_parts Try.info44
  obtain ⟨i0, hi, hz0, hz1, hz2⟩ := Try.info59'
  have HAT := hide hat
  have HLEN := hide hLen
  have HC1 : Hid (((D.length : Int) + 1) = ((D.length + 1 : Nat) : Int)) := by unfold Hid; omega
  clear hat hLen
  go_enter Try.func16, Try.ntmps16
  go_wp2_with (refine wpList_make_full _ rfl (.tmp 8) (.tmp 8) 29 rfl w.heap.size 44 i44 (.agg #[.int .i64 0, .int .i64 0, .bool false, .slice none 0 0]) 4 Try.underlying29 hj hy0 hy1 .i64 .i64 _ _ (D.length + 1) rfl rfl HC1.out HC1.out (by rw [hy2]; omega) (by unfold maxLen; omega) (Nat.le_refl _) ?_; intro w1 h1 h2; obtain ⟨cur, g1, g2⟩ := full_row h1; have G1 := hide g1; have G2 := hide g2; have X1 : Hid (Below w.heap.size w w1) := (Below.refl _ _).grown h2 (Nat.le_refl _) (fun k hk => by cases hk); clear h1 h2 g1 g2)
  have S0 : Hid (LnS w w.heap.size D (List.replicate D.length zD) 0 0 w1) := by
    refine ⟨List.length_replicate, ?_, fun i _ _ h => absurd h (Nat.not_lt_zero _), X1.out⟩
    rw [← made_pieces, ← G2.out]
    simpa using G1.out
  clear G1 G2 X1
  go_loopw [4] (fun x wr => ∃ (k : Nat) (E : List PD), k ≤ D.length ∧ x = .int .i64 k ∧ Hid (LnS w w.heap.size D E k 0 wr)) (fun x _ => D.length - (RowKit.intOf x).toNat)
  case atStart => exact ⟨0, _, Nat.zero_le _, rfl, S0⟩
  case round =>
    obtain ⟨k, E, hk, rfl, S⟩ := hrel
    rename World => wr
    clear S0
    by_cases hlt : k < D.length
    · have hlt' : (k : Int) < (D.length : Int) := by omega
      have hlt2 : (k : Int) < (D.length : Int) + 1 := by omega
      rcases HAT.out with h | ⟨pb, off, rfl, hb, hc⟩
      · rw [h] at hlt; simp at hlt
      obtain ⟨p0, p1, p2, p3, p4⟩ := hc k hlt
      have HCL : Hid (∀ W, Below w.heap.size w W → pb < W.heap.size ∧ W.cell? ⟨pb, off + k * 4, none⟩ = some (.int .i64 D[k].p.kind) ∧ W.cell? ⟨pb, off + k * 4 + 1, none⟩ = some (.int .i64 D[k].p.b) ∧ W.cell? ⟨pb, off + k * 4 + 2, none⟩ = some (.bool D[k].p.no) ∧ W.cell? ⟨pb, off + k * 4 + 3, none⟩ = some (.slice D[k].so D[k].p.set.length D[k].sc)) := fun W x => ⟨Nat.lt_of_lt_of_le hb x.size, (x.cell (p := ⟨pb, off + k * 4, none⟩) hb).trans p0, (x.cell (p := ⟨pb, off + k * 4 + 1, none⟩) hb).trans p1, (x.cell (p := ⟨pb, off + k * 4 + 2, none⟩) hb).trans p2, (x.cell (p := ⟨pb, off + k * 4 + 3, none⟩) hb).trans p3⟩
      have P4 := hide (fun W (x : Below w.heap.size w W) => p4.below x)
      have hkE : Hid (k < E.length) := by unfold Hid; rw [S.out.len]; exact hlt
      have HPL := hide (HLEN.out _ (List.getElem_mem hlt))
      have HPUT := hide (fun W (h : LnS w w.heap.size D E k 0 W) => h.put hlt (row_put hkE.out D[k] 0))
      have HFIN := hide (fun W (h : LnS w w.heap.size D (E.set k D[k]) k 0 W) b (hb : w.heap.size < b) hB => h.fin hlt (by rw [List.length_set]; exact hkE.out) (by rw [List.getElem_set, if_pos rfl]) (b := b) hb hB)
      have HCV := hide (fun W (h : LnS w w.heap.size D (E.set k D[k]) k 0 W) => h.cellv k (by rw [List.length_set]; exact hkE.out))
      obtain ⟨_, r0, r1, r2, r3⟩ := HCL.out wr S.out.bel
      have hgl : Hid (w.heap.size < wr.heap.size) := lt_of_block S.out.row
      have HRS : Hid (k * 4 + 4 ≤ (pdCells E ++ tl 0).toArray.size) := by unfold Hid; rw [row_size]; have := hkE.out; omega
      clear hc p0 p1 p2 p3 p4
      generalize D[k] = d at *
      have HO2 : Hid ((#[Value.int .i64 (-77), Value.int .i64 0] : Array Value).all (·.oneCell') = true) := by simp [Hid, Value.oneCell']
      have HO4 : Hid ((#[Value.int .i64 d.p.kind, Value.int .i64 d.p.b, Value.bool d.p.no, Value.slice d.so d.p.set.length d.sc] : Array Value).all (·.oneCell') = true) := by simp [Hid, Value.oneCell']
      have HC2 : Hid (((d.p.set.length : Int) + 1) = ((d.p.set.length + 1 : Nat) : Int)) := by unfold Hid; omega
      have hdl : d.p.set.length ≤ 4294967296 := HPL.out
      have hd1 : (d.p.set.length : Int) < (d.p.set.length : Int) + 1 := by omega
      have hd2 : (d.p.set.length : Int) ≤ (d.p.set.length : Int) + 1 := by omega
      have HNIL : Hid (d.so = none → d.p.set.length = 0) := fun h => by
        rcases P4.out wr S.out.bel with h1 | ⟨b, o, e, _⟩
        · rw [h1]; rfl
        · rw [h] at e; cases e
      have HSRC := hide (fun W (x : Below w.heap.size w W) ad (h : d.so = some ad) => (show SpAt W (some ad) d.p.set by rw [← h]; exact P4.out W x).cells)
      go_wp2_with (first
        | (refine wpList_make_full _ rfl (.tmp 22) (.tmp 22) 42 rfl wr.heap.size 59 i0 (.agg #[.int .i64 0, .int .i64 0]) 2 Try.underlying42 hi hz0 hz1 .i64 .i64 _ _ (d.p.set.length + 1) rfl rfl HC2.out HC2.out (by rw [hz2]; omega) (by unfold maxLen; omega) (Nat.le_refl _) ?_; intro w1 h1 h2; obtain ⟨cur, g1, g2, g3, g4, g5⟩ := set_copied h1 h2; have G1 := hide g1; have G2 := hide g2; have G3 := hide (bt S.out.bel g3 (Nat.le_refl _)); have G4 := hide g4; have G5 := hide g5; obtain ⟨hb1, _, _, _, q3⟩ := HCL.out w1 G3.out; clear h1 h2 g1 g2 g3 g4 g5)
        | (refine wpList_copy_wide rfl (.tmp 24) (.tmp 29) 42 42 rfl 59 2 Try.underlying42 Try.size59 wr.heap.size (d.p.set.length + 1) (d.p.set.length + 1) d.so d.p.set.length d.sc rfl rfl cur 59 G1.out (spCells d.p.set) (spCells_length _) (by omega) HNIL.out (HSRC.out _ G3.out) G2.out (spCells_one _) ?_; generalize w1.setRow wr.heap.size (spCells d.p.set ++ cur.toList.drop (spCells d.p.set).length).toArray = w2 at G4 G5 ⊢; obtain ⟨hb2, _, _, _, s3⟩ := HCL.out w2 (bt S.out.bel G5.out (Nat.le_refl _)); obtain ⟨m1, m2, m3⟩ := set_marked G4.out G5.out (Nat.le_refl _); have M1 := hide m1; have M2 := hide m2; have M3 := hide m3; clear m1 m2 m3)
        | (refine wpList_store_part rfl 59 (.tmp 39) (.tmp 38) rfl wr.heap.size (d.p.set.length * 2) #[.int .i64 (-77), .int .i64 0] rfl rfl 59 _ G4.out Try.size59 M1.out HO2.out ?_; generalize w2.setRow wr.heap.size _ = w3 at M2 M3 ⊢; have S3 := hide (S.out.next (Nat.le_refl _) M3.out); have S4 := hide (HPUT.out w3 S3.out); obtain ⟨hb3, t0, t1, t2, t3⟩ := HCL.out w3 S3.out.bel; have K4 : Hid (w3.heap[wr.heap.size]? = some (.cells (spCells d.p.set ++ [Value.int .i64 (-77), Value.int .i64 0]).toArray 59 (0, 0))) := M2)
        | (refine wpList_store_part rfl 44 (.tmp 46) (.tmp 45) rfl w.heap.size (k * 4) #[.int .i64 d.p.kind, .int .i64 d.p.b, .bool d.p.no, .slice d.so d.p.set.length d.sc] rfl rfl 44 _ S3.out.row Try.size44 HRS.out HO4.out ?_; rw [row_put hkE.out d 0]; have B4 := hide ((setRow_other w3 w.heap.size wr.heap.size (pdCells (E.set k d) ++ tl 0).toArray (by have := hgl.out; omega)).trans K4.out); rw [row_put hkE.out d 0] at S4; generalize w3.setRow w.heap.size (pdCells (E.set k d) ++ tl 0).toArray = w4 at S4 B4 ⊢; obtain ⟨hb4, _, _, _, v3⟩ := HCL.out w4 S4.out.bel; obtain ⟨c3, f3⟩ := HCV.out w4 S4.out; have S5 := hide (HFIN.out w4 S4.out wr.heap.size hgl.out B4.out)))
      go_roundw
      case rel => exact ⟨k + 1, _, by omega, by go_num, S5⟩
      case measure => simp [RowKit.intOf]; omega
    · have hnl : ¬ (k : Int) < (D.length : Int) := by omega
      have hkl : k = D.length := by omega
      subst hkl
      obtain ⟨c0, f0, s9⟩ := S.out.tail
      have S9 := hide s9
      have hn1 : (D.length : Int) < (D.length : Int) + 1 := by omega
      have hn2 : (D.length : Int) ≤ (D.length : Int) + 1 := by omega
      clear s9
      go_wp2
      go_ret
      exact ⟨rfl, E, S9.out⟩
end Go.Proofs.Ytaiijdnfimclbaa
