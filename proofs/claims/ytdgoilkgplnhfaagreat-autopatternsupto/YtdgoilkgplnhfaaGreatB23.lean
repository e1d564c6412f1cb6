/-
  slices.Compact at rows of pairs: each but once where equal ones stand side by side. Condition: at most 65536 pairs.
-/
import Derived.Test.YtdgoilkgplnhfaaGreatB22
import Derived.Deep.LoopGhost
import Derived.Test.YtdgoilkgplnhfaaGreatB20
import Derived.Deep.WholeRow
import Derived.Laws.CopyOwn
namespace Go.Proofs.YtdgoilkgplnhfaaGreat
open Go.RowKit Go.Lib

/-- The k-th pair. -/
def gQ (M : List Spn) (k : Nat) : Spn := M.getD k (0, 0)
/-- The first k, without those that equal the one ahead. -/
def cpk (M : List Spn) : Nat → List Spn
  | 0 => []
  | k + 1 => if 0 < k ∧ gQ M k = gQ M (k - 1) then cpk M k else cpk M k ++ [gQ M k]
theorem cpk_le (M : List Spn) : ∀ k, (cpk M k).length ≤ k
  | 0 => Nat.le_refl _
  | k + 1 => by
    unfold cpk
    have := cpk_le M k
    split
    · omega
    · simp; omega
theorem gQ_lt {M : List Spn} {k : Nat} (h : k < M.length) : gQ M k = M[k] := by unfold gQ; simp [List.getD_eq_getElem?_getD, h]
/-- What stands in the row while it is gone through. -/
structure CpS (M R : List Spn) (m : Nat) : Prop where
  ln : R.length = M.length
  tk : R.take (cpk M m).length = cpk M m
  le : (cpk M m).length + 1 ≤ m
  ml : m ≤ M.length
  rs : ∀ j, m ≤ j + 1 → j < M.length → gQ R j = gQ M j
theorem CpS.start {M : List Spn} {k : Nat} (hk : 0 < k) (hl : k < M.length) (he : gQ M k = gQ M (k - 1)) (ht : cpk M k = M.take k) : CpS M M (k + 1) := by
  have e : cpk M (k + 1) = M.take k := by
    unfold cpk
    rw [if_pos ⟨hk, he⟩, ht]
  have el : (M.take k).length = k := by rw [List.length_take]; omega
  exact ⟨rfl, by rw [e, el], by rw [e, el]; omega, by omega, fun _ _ _ => rfl⟩
theorem CpS.same {M R : List Spn} {m : Nat} (h : CpS M R m) (hm : m < M.length) (he : gQ M m = gQ M (m - 1)) : CpS M R (m + 1) ∧ cpk M (m + 1) = cpk M m := by
  have h0 : 0 < m := by have := h.le; omega
  have e : cpk M (m + 1) = cpk M m := by
    conv => lhs; unfold cpk
    rw [if_pos ⟨h0, he⟩]
  exact ⟨⟨h.ln, by rw [e]; exact h.tk, by rw [e]; have := h.le; omega, by omega, fun j hj => h.rs j (by omega)⟩, e⟩
theorem CpS.other {M R : List Spn} {m : Nat} (h : CpS M R m) (hm : m < M.length) (he : ¬ gQ M m = gQ M (m - 1)) : CpS M (R.set (cpk M m).length (gQ M m)) (m + 1) ∧ (cpk M (m + 1)).length = (cpk M m).length + 1 := by
  have hle := h.le
  have e : cpk M (m + 1) = cpk M m ++ [gQ M m] := by
    conv => lhs; unfold cpk
    rw [if_neg (fun h => he h.2)]
  have el : (cpk M (m + 1)).length = (cpk M m).length + 1 := by rw [e]; simp
  refine ⟨⟨by rw [List.length_set, h.ln], ?_, by rw [el]; omega, by omega, fun j hj hl => ?_⟩, el⟩
  · have hlr : (cpk M m).length < (R.set (cpk M m).length (gQ M m)).length := by rw [List.length_set, h.ln]; omega
    rw [el, List.take_succ_eq_append_getElem hlr, e]
    congr 1
    · rw [List.take_set_of_le (Nat.le_refl _)]
      exact h.tk
    · simp
  · have : gQ (R.set (cpk M m).length (gQ M m)) j = gQ R j := by
      unfold gQ
      rw [List.getD_eq_getElem?_getD, List.getElem?_set, if_neg (by omega), List.getD_eq_getElem?_getD]
    rw [this]
    exact h.rs j (by omega) hl
/-- The first pairs of a row are a row. -/
theorem OwnQ.short {w : World} {base g cap n : Nat} {R : List Spn} (h : OwnQ w base (.slice (some ⟨g, 0, none⟩) n cap) R) {k : Nat} (hk : k ≤ R.length) : OwnQ w base (.slice (some ⟨g, 0, none⟩) k cap) (R.take k) := by
  have hh : w.ownsRow base 48 2 (.slice (some ⟨g, 0, none⟩) n cap) R.length (spCells R) := h
  have el : (R.take k).length = k := by rw [List.length_take]; omega
  have hn : n = R.length := by
    rcases hh.2 with ⟨e, e2⟩ | ⟨g', c', cur, e, _⟩
    · cases e
    · injection e with _ e2 _
  subst hn
  rcases hh.2 with ⟨e, _⟩ | ⟨g', cap', cur, hv, h2, h3, h4, h5, h6, h7⟩
  · cases e
  · injection hv with e1 _ e3
    injection e1 with e1
    injection e1 with e1 _ _
    subst e1 e3
    unfold OwnQ
    rw [el]
    refine own_of_cells h2 h3 (by omega) h5 h6 (by rw [spCells_length, el]) (fun j hj => ?_)
    rw [hh.cellAt j (by omega)]
    have e : spCells R = spCells (R.take k) ++ spCells (R.drop k) := by rw [← spCells_append, List.take_append_drop]
    rw [e, List.getElem?_append_left (by rw [spCells_length, el]; exact hj)]
/-- What is written behind it leaves it. -/
theorem OwnQ.behind {base g cap k : Nat} {K : List Spn} : ∀ (vs : List Value) (o : Nat) (w : World), K.length * 2 ≤ o → OwnQ w base (.slice (some ⟨g, 0, none⟩) k cap) K → OwnQ (w.setCells g o vs) base (.slice (some ⟨g, 0, none⟩) k cap) K ∧ Kept (fun i => i = g) w (w.setCells g o vs)
  | [], _, w, _, h => ⟨h, Kept.refl _ _⟩
  | v :: vs, o, w, ho, h => by
    have hh : w.ownsRow base 48 2 (.slice (some ⟨g, 0, none⟩) k cap) K.length (spCells K) := h
    have hn : k = K.length := by
      rcases hh.2 with ⟨e, e2⟩ | ⟨g', c', cur, e, _⟩
      · cases e
      · injection e with _ e2 _
    subst hn
    obtain ⟨h1, h2⟩ := hh.stored o v
    rw [List.set_eq_of_length_le (by rw [spCells_length]; exact ho)] at h1
    obtain ⟨h3, h4⟩ := OwnQ.behind vs (o + 1) (w.setCell ⟨g, o, none⟩ v) (by omega) h1
    exact ⟨h3, ((kept_of_grown h2).mono (fun k hk => by injection hk with hk; exact hk.symm)).trans h4⟩
theorem clear2 (ty : TypeId) (w : World) (g o n c : Nat) (hn : 0 < n) (hc : ∀ j, j < n * 2 → (w.cell? ⟨g, o + j, none⟩).isSome = true) (hf : ∀ j, j < n * 2 → w.frozen? ⟨g, o + j, none⟩ = false) :
    (Builtin.clear_ #[44] ty #[.slice (some ⟨g, o, none⟩) n c]).run Tryz.prog w = .ok (.tuple #[]) (w.setCells g o (List.replicate (n * 2) (.int .i64 0))) := by
  have hv : ∀ w, (zeroValue 48).run Tryz.prog w = .ok (.agg #[.int .i64 0, .int .i64 0]) w := fun w => Tryz.zeroValue48 w
  have hzc : (Builtin.zeroCells (Value.agg #[.int .i64 0, .int .i64 0]).cells n).toList = List.replicate (n * 2) (.int .i64 0) := by
    simp [Builtin.zeroCells, Value.cells]
    apply List.ext_getElem
    · simp
    · intro i h1 h2
      rcases Nat.mod_two_eq_zero_or_one i with hm | hm <;> simp [hm]
  have hst := run_storeCells_cells (P := Tryz.prog) g o (List.replicate (n * 2) (Value.int .i64 0)) 0 w (by simpa using hc) (by simpa using hf) (by intro v hv'; rw [List.eq_of_mem_replicate hv']; rfl)
  simp only [Nat.add_zero] at hst
  obtain ⟨m, rfl⟩ : ∃ m, n = m + 1 := ⟨n - 1, by omega⟩
  simp [Builtin.clear_, run_underlying Tryz.underlying44, hv, hzc, hst]
theorem OwnQ.at' {w : World} {base g cap n : Nat} {L : List Spn} (h : OwnQ w base (.slice (some ⟨g, 0, none⟩) n cap) L) {i : Nat} (hi : i < L.length) (a b : Nat) (ha : a = i * 2) (hb : b = i * 2 + 1) : w.cell? ⟨g, a, none⟩ = some (.int .i64 (gQ L i).1) ∧ w.cell? ⟨g, b, none⟩ = some (.int .i64 (gQ L i).2) ∧ w.frozen? ⟨g, a, none⟩ = false ∧ w.frozen? ⟨g, b, none⟩ = false := by
  subst ha hb
  exact h.cells hi
set_option maxRecDepth 100000 in
set_option maxHeartbeats 8000000 in
theorem compact_any (base g cap : Nat) (M : List Spn) (w : World) (h1 : 0 < M.length) (hn : M.length ≤ 65536) (ho : OwnQ w base (.slice (some ⟨g, 0, none⟩) M.length cap) M) :
    Calls Tryz.prog 99 #[.slice (some ⟨g, 0, none⟩) M.length cap] w fun e w' => e = .returned (.slice (some ⟨g, 0, none⟩) (cpk M M.length).length cap) ∧ OwnQ w' base (.slice (some ⟨g, 0, none⟩) (cpk M M.length).length cap) (cpk M M.length) ∧ Kept (fun k => k = g) w w' := by
  have HO := hide ho
  have hcap : M.length ≤ cap := by
    rcases ho.2 with ⟨e, _⟩ | ⟨g', cap', cur, hv, h2, h3, h4, _⟩
    · cases e
    · injection hv with _ _ e3
      subst e3
      exact h4
  have HK0 : Hid (Kept (fun k => k = g) w w) := Kept.refl _ _
  have c1 : Hid (cpk M (0 + 1) = M.take (0 + 1)) := by
    unfold Hid cpk cpk
    rw [if_neg (by omega), List.nil_append, List.take_succ_eq_append_getElem h1, List.take_zero, List.nil_append, gQ_lt h1]
  clear ho
  by_cases h2 : M.length < 2
  · have h2' : (M.length : Int) < 2 := by omega
    have e1 : Hid (cpk M M.length = M) := by
      unfold Hid
      have e : M.length = 0 + 1 := by omega
      have := c1.out
      rw [← e, List.take_length] at this
      exact this
    go_enter Tryz.func99, Tryz.ntmps99
    go_wp2
    go_ret
    rw [e1.out]
    exact ⟨rfl, HO.out, HK0.out⟩
  · have h2' : ¬ (M.length : Int) < 2 := by omega
    have R0 : Hid ((0 : Nat) < M.length) := h1
    go_enter Tryz.func99, Tryz.ntmps99
    go_wp2
    go_loopg [3] (M.length + 1) (fun gg x wr => ∃ k : Nat, x = .int .i64 ((k : Int) + 1) ∧ k < M.length ∧ Hid (cpk M (k + 1) = M.take (k + 1)) ∧ Hid (OwnQ wr base (.slice (some ⟨g, 0, none⟩) M.length cap) M) ∧ Hid (Kept (fun k => k = g) w wr) ∧ M.length - k < gg)
    case atStart => exact ⟨0, rfl, by omega, c1, HO, HK0, by omega⟩
    case round =>
      obtain ⟨k, rfl, hk, CT, O, KP, hgg⟩ := hrel
      have HG := hide hgg
      clear hgg HO HK0 c1 R0
      by_cases hkn : k + 1 < M.length
      · have hkn' : (k : Int) + 1 < (M.length : Int) := by omega
        have hk' : (k : Int) < (M.length : Int) := by omega
        have w1 : IntKind.i64.wrap ((k : Int) + 1 - 1) = (k : Int) := by simp [IntKind.wrap, IntKind.bits, IntKind.signed]; omega
        have w2 : IntKind.i64.wrap ((k : Int) + 1 + 1) = (k : Int) + 1 + 1 := by simp [IntKind.wrap, IntKind.bits, IntKind.signed]; omega
        have w3 : IntKind.i64.wrap ((k : Int) + 1) = (k : Int) + 1 := by simp [IntKind.wrap, IntKind.bits, IntKind.signed]; omega
        have w4 : IntKind.i64.wrap (k : Int) = (k : Int) := w64_n _ (by omega)
        have p0 : (0 : Int) ≤ (k : Int) + 1 := by omega
        have p1 : ((k : Int) + 1).toNat = k + 1 := by omega
        obtain ⟨a0, a1, _, _⟩ := O.out.at' (i := k + 1) hkn ((k + 1) * 2) ((k + 1) * 2 + 1) rfl rfl
        obtain ⟨b0, b1, _, _⟩ := O.out.at' (i := k) hk (k * 2) (k * 2 + 1) rfl rfl
        have heq := fun W => eq48 (gQ M (k + 1)).1 (gQ M (k + 1)).2 (gQ M k).1 (gQ M k).2 W
        have hbe : ((gQ M (k + 1)).1 == (gQ M k).1 && (gQ M (k + 1)).2 == (gQ M k).2) = true ↔ gQ M (k + 1) = gQ M k := by
          simp only [Bool.and_eq_true, beq_iff_eq]
          exact ⟨fun h => Prod.ext h.1 h.2, fun h => by rw [h]; exact ⟨rfl, rfl⟩⟩
        generalize ((gQ M (k + 1)).1 == (gQ M k).1 && (gQ M (k + 1)).2 == (gQ M k).2) = bb at heq hbe
        have HBE := hide hbe
        have OD : Hid (OwnQ wr.drew base (.slice (some ⟨g, 0, none⟩) M.length cap) M) := own_below O.out (Below.refl _ _).drew
        have KD := hide (KP.out.trans (Kept.of_below (Below.refl _ _).drew))
        clear hbe
        go_wp2
        go_region_held3 (fun V => V.cell? ⟨g, (k + 1) * 2, none⟩ = some (.int .i64 (gQ M (k + 1)).1) ∧ V.cell? ⟨g, (k + 1) * 2 + 1, none⟩ = some (.int .i64 (gQ M (k + 1)).2) ∧ V.cell? ⟨g, k * 2, none⟩ = some (.int .i64 (gQ M k).1) ∧ V.cell? ⟨g, k * 2 + 1, none⟩ = some (.int .i64 (gQ M k).2)) (first | assumption | exact ⟨a0, a1, b0, b1⟩ | (simp [go_sem, *]; done)) (first | fail)
        cases bb with
        | false =>
          have CN : Hid (cpk M (k + 1 + 1) = M.take (k + 1 + 1)) := by
            unfold Hid
            have hne : ¬ (0 < k + 1 ∧ gQ M (k + 1) = gQ M (k + 1 - 1)) := fun h => by have := HBE.out.2 h.2; cases this
            conv => lhs; unfold cpk
            rw [if_neg hne, CT.out, List.take_succ_eq_append_getElem hkn, gQ_lt hkn]
          clear heq a0 a1 b0 b1
          go_wp2
          go_roundg (M.length - (k + 1) + 1)
          case measure => have := HG.out; omega
          case rel => exact ⟨k + 1, by first | rfl | go_num | (congr 1; omega), by omega, CN, OD, KD, by omega⟩
        | true =>
          have CS : Hid (CpS M M (k + 1 + 1)) := CpS.start (by omega) hkn (HBE.out.1 rfl) CT.out
          have hlen0 : (cpk M (k + 1 + 1)).length = k + 1 := by
            have e : cpk M (k + 1 + 1) = cpk M (k + 1) := by
              conv => lhs; unfold cpk
              rw [if_pos ⟨by omega, HBE.out.1 rfl⟩]
            rw [e, CT.out, List.length_take]
            omega
          have HL0 := hide hlen0
          have hcp : (k : Int) + 1 ≤ (M.length : Int) := by omega
          have hcc : (k : Int) + 1 ≤ (cap : Int) := by omega
          clear heq a0 a1 b0 b1 hlen0
          go_wp2
          obtain ⟨n2, hn2⟩ : ∃ n2, n2 = M.length - (k + 1) := ⟨_, rfl⟩
          obtain ⟨c2, hc2⟩ : ∃ c2, c2 = cap - (k + 1) := ⟨_, rfl⟩
          rw [← hn2, ← hc2]
          have HN2 := hide hn2
          clear hn2 hc2
          go_loopg [3, 5] (M.length + 1) (fun gg x3 x5 wr => ∃ (R : List Spn) (q : Nat), x3 = .int .i64 (((cpk M (k + 1 + (q + 1))).length : Nat) : Int) ∧ x5 = .int .i64 ((q : Int) + 1) ∧ Hid (OwnQ wr base (.slice (some ⟨g, 0, none⟩) M.length cap) R) ∧ Hid (CpS M R (k + 1 + (q + 1))) ∧ Hid (Kept (fun k => k = g) w wr) ∧ M.length - q < gg)
          case atStart => exact ⟨M, 0, by rw [HL0.out]; rfl, rfl, OD, CS, KD, by omega⟩
          case round =>
            obtain ⟨R, q, rfl, rfl, O, CS, KP, hgg⟩ := hrel
            have HG2 := hide hgg
            clear hgg OD KD
            have hml := CS.out.ml
            have hle := CS.out.le
            have hRl := CS.out.ln
            have hn2v := HN2.out
            by_cases hq : q + 1 < n2
            · have hq' : (q : Int) + 1 < (n2 : Int) := by omega
              have hqq : (q : Int) < (n2 : Int) := by omega
              have hqn : q < n2 := by omega
              have hm : k + 1 + (q + 1) < M.length := by omega
              clear hn2v
              have v1 : IntKind.i64.wrap ((q : Int) + 1 - 1) = (q : Int) := by simp [IntKind.wrap, IntKind.bits, IntKind.signed]; omega
              have v2 : IntKind.i64.wrap ((q : Int) + 1 + 1) = (q : Int) + 1 + 1 := by simp [IntKind.wrap, IntKind.bits, IntKind.signed]; omega
              have v3 : IntKind.i64.wrap ((q : Int) + 1) = (q : Int) + 1 := by simp [IntKind.wrap, IntKind.bits, IntKind.signed]; omega
              have v4 : IntKind.i64.wrap (q : Int) = (q : Int) := w64_n _ (by omega)
              have r0 : (0 : Int) ≤ (q : Int) + 1 := by omega
              have r1 : ((q : Int) + 1).toNat = q + 1 := by omega
              have g1 : gQ R (k + 1 + (q + 1)) = gQ M (k + 1 + (q + 1)) := CS.out.rs _ (by omega) hm
              have g2 : gQ R (k + 1 + q) = gQ M (k + 1 + q) := CS.out.rs _ (by omega) (by omega)
              obtain ⟨a0, a1, _, _⟩ := O.out.at' (i := k + 1 + (q + 1)) (by omega) ((k + 1) * 2 + (q + 1) * 2) ((k + 1) * 2 + (q + 1) * 2 + 1) (by omega) (by omega)
              obtain ⟨b0, b1, _, _⟩ := O.out.at' (i := k + 1 + q) (by omega) ((k + 1) * 2 + q * 2) ((k + 1) * 2 + q * 2 + 1) (by omega) (by omega)
              rw [g1] at a0 a1
              rw [g2] at b0 b1
              have heq := fun W => eq48 (gQ M (k + 1 + (q + 1))).1 (gQ M (k + 1 + (q + 1))).2 (gQ M (k + 1 + q)).1 (gQ M (k + 1 + q)).2 W
              have hbe : ((gQ M (k + 1 + (q + 1))).1 == (gQ M (k + 1 + q)).1 && (gQ M (k + 1 + (q + 1))).2 == (gQ M (k + 1 + q)).2) = true ↔ gQ M (k + 1 + (q + 1)) = gQ M (k + 1 + (q + 1) - 1) := by
                simp only [Bool.and_eq_true, beq_iff_eq]
                rw [show k + 1 + (q + 1) - 1 = k + 1 + q by omega]
                exact ⟨fun h => Prod.ext h.1 h.2, fun h => by rw [h]; exact ⟨rfl, rfl⟩⟩
              generalize ((gQ M (k + 1 + (q + 1))).1 == (gQ M (k + 1 + q)).1 && (gQ M (k + 1 + (q + 1))).2 == (gQ M (k + 1 + q)).2) = bb at heq hbe
              have HBE := hide hbe
              have OD : Hid (OwnQ wr.drew base (.slice (some ⟨g, 0, none⟩) M.length cap) R) := own_below O.out (Below.refl _ _).drew
              have KD := hide (KP.out.trans (Kept.of_below (Below.refl _ _).drew))
              have hkm : (cpk M (k + 1 + (q + 1))).length < M.length := by omega
              cases bb with
              | true =>
                obtain ⟨cs2, hl2⟩ := CS.out.same hm (HBE.out.1 rfl)
                have CS2 := hide cs2
                have HLE : Hid ((cpk M (k + 1 + (q + 1 + 1))).length = (cpk M (k + 1 + (q + 1))).length) := by unfold Hid; rw [show k + 1 + (q + 1 + 1) = k + 1 + (q + 1) + 1 by omega, hl2]
                clear hbe cs2 hl2 g1 g2 hml hle hRl
                generalize (cpk M (k + 1 + (q + 1))).length = kk at *
                go_wp2
                go_region_held3 (fun V => V.cell? ⟨g, (k + 1) * 2 + (q + 1) * 2, none⟩ = some (.int .i64 (gQ M (k + 1 + (q + 1))).1) ∧ V.cell? ⟨g, (k + 1) * 2 + (q + 1) * 2 + 1, none⟩ = some (.int .i64 (gQ M (k + 1 + (q + 1))).2) ∧ V.cell? ⟨g, (k + 1) * 2 + q * 2, none⟩ = some (.int .i64 (gQ M (k + 1 + q)).1) ∧ V.cell? ⟨g, (k + 1) * 2 + q * 2 + 1, none⟩ = some (.int .i64 (gQ M (k + 1 + q)).2)) (first | assumption | exact ⟨a0, a1, b0, b1⟩ | (simp [go_sem, *]; done)) (first | fail)
                clear heq a0 a1 b0 b1
                go_wp2
                go_roundg (M.length - (q + 1) + 1)
                case measure => have := HG2.out; omega
                case rel => exact ⟨R, q + 1, by rw [HLE.out], by first | rfl | go_num | (congr 1; omega), OD, CS2, KD, by omega⟩
              | false =>
                obtain ⟨cs2, hl2⟩ := CS.out.other hm (fun h => by have := HBE.out.2 h; cases this)
                have CS2 := hide cs2
                have HLE : Hid ((cpk M (k + 1 + (q + 1 + 1))).length = (cpk M (k + 1 + (q + 1))).length + 1) := by unfold Hid; rw [show k + 1 + (q + 1 + 1) = k + 1 + (q + 1) + 1 by omega, hl2]
                obtain ⟨_, _, f0, f1⟩ := O.out.cells (i := (cpk M (k + 1 + (q + 1))).length) (by omega)
                obtain ⟨y0, y1, _, _⟩ := O.out.cells (i := (cpk M (k + 1 + (q + 1))).length) (by omega)
                obtain ⟨o5, k5⟩ := OD.out.put (cpk M (k + 1 + (q + 1))).length (gQ M (k + 1 + (q + 1))) (by omega)
                have O5 := hide o5
                have K5 := hide (KD.out.trans k5)
                have hkm' : ((cpk M (k + 1 + (q + 1))).length : Int) < (M.length : Int) := by omega
                have wk : IntKind.i64.wrap (((cpk M (k + 1 + (q + 1))).length : Int) + 1) = ((cpk M (k + 1 + (q + 1))).length : Int) + 1 := by simp [IntKind.wrap, IntKind.bits, IntKind.signed]; omega
                clear hbe cs2 hl2 g1 g2 hml hle hRl o5 k5
                generalize (cpk M (k + 1 + (q + 1))).length = kk at *
                go_wp2
                go_region_held3 (fun V => V.cell? ⟨g, (k + 1) * 2 + (q + 1) * 2, none⟩ = some (.int .i64 (gQ M (k + 1 + (q + 1))).1) ∧ V.cell? ⟨g, (k + 1) * 2 + (q + 1) * 2 + 1, none⟩ = some (.int .i64 (gQ M (k + 1 + (q + 1))).2) ∧ V.cell? ⟨g, (k + 1) * 2 + q * 2, none⟩ = some (.int .i64 (gQ M (k + 1 + q)).1) ∧ V.cell? ⟨g, (k + 1) * 2 + q * 2 + 1, none⟩ = some (.int .i64 (gQ M (k + 1 + q)).2)) (first | assumption | exact ⟨a0, a1, b0, b1⟩ | (simp [go_sem, *]; done)) (first | fail)
                clear heq b0 b1
                go_wp2
                go_roundg (M.length - (q + 1) + 1)
                case measure => have := HG2.out; omega
                case rel => exact ⟨_, q + 1, by rw [HLE.out]; first | rfl | go_num, by first | rfl | go_num | (congr 1; omega), O5, CS2, K5, by omega⟩
            · have hq' : ¬ (q : Int) + 1 < (n2 : Int) := by omega
              have hmn : k + 1 + (q + 1) = M.length := by omega
              have CS3 := CS.out
              rw [hmn] at CS3 hle ⊢
              have hcl := fun ty => clear2 ty wr g ((cpk M M.length).length * 2) (M.length - (cpk M M.length).length) (cap - (cpk M M.length).length) (by omega) (fun j hj => by
                  have hi : ((cpk M M.length).length * 2 + j) / 2 < R.length := by omega
                  obtain ⟨z0, z1, _, _⟩ := O.out.cells hi
                  rcases Nat.mod_two_eq_zero_or_one ((cpk M M.length).length * 2 + j) with hm2 | hm2
                  · rw [show ((cpk M M.length).length * 2 + j) / 2 * 2 = (cpk M M.length).length * 2 + j by omega] at z0
                    rw [z0]; rfl
                  · rw [show ((cpk M M.length).length * 2 + j) / 2 * 2 + 1 = (cpk M M.length).length * 2 + j by omega] at z1
                    rw [z1]; rfl) (fun j hj => by
                  have hi : ((cpk M M.length).length * 2 + j) / 2 < R.length := by omega
                  obtain ⟨_, _, z0, z1⟩ := O.out.cells hi
                  rcases Nat.mod_two_eq_zero_or_one ((cpk M M.length).length * 2 + j) with hm2 | hm2
                  · rw [show ((cpk M M.length).length * 2 + j) / 2 * 2 = (cpk M M.length).length * 2 + j by omega] at z0
                    exact z0
                  · rw [show ((cpk M M.length).length * 2 + j) / 2 * 2 + 1 = (cpk M M.length).length * 2 + j by omega] at z1
                    exact z1)
              have os := O.out.short (k := (cpk M M.length).length) (by omega)
              rw [CS3.tk] at os
              obtain ⟨o6, k6⟩ := OwnQ.behind (List.replicate ((M.length - (cpk M M.length).length) * 2) (.int .i64 0)) ((cpk M M.length).length * 2) wr (Nat.le_refl _) os
              have O6 := hide o6
              have K6 := hide (KP.out.trans k6)
              have hk1 : ((cpk M M.length).length : Int) ≤ (M.length : Int) := by omega
              have hk2 : ((cpk M M.length).length : Int) ≤ (cap : Int) := by omega
              have hk3 : (cpk M M.length).length ≤ M.length := by omega
              have hk4 : (cpk M M.length).length ≤ cap := by omega
              have hk5 : ¬ cap = (cpk M M.length).length := by omega
              have hk6 : ¬ (cap : Int) = ((cpk M M.length).length : Int) := by omega
              clear os o6 k6 hn2v hml hle hRl CS3 hmn
              generalize hkk : (cpk M M.length).length = kk at *
              have HKK := hide hkk
              clear hkk
              go_wp2
              go_ret
              rw [HKK.out]
              exact ⟨rfl, O6.out, K6.out⟩
      · have hkn' : ¬ (k : Int) + 1 < (M.length : Int) := by omega
        have e : Hid (cpk M M.length = M) := by
          unfold Hid
          have e : M.length = k + 1 := by omega
          have := CT.out
          rw [← e, List.take_length] at this
          exact this
        go_wp2
        go_ret
        rw [e.out]
        exact ⟨rfl, O.out, KP.out⟩
end Go.Proofs.YtdgoilkgplnhfaaGreat
/-
  risingOnce by its contract: each pair once, rising. Condition: 1 to 65536 pairs.
-/
namespace Go.Proofs.YtdgoilkgplnhfaaGreat
open Go.RowKit Go.Lib

def PLt (s t : Spn) : Prop := s.1 < t.1 ∨ (s.1 = t.1 ∧ s.2 < t.2)
/-- Each of some pairs once, rising. -/
structure RoS (L P : List Spn) : Prop where
  up : P.Pairwise PLt
  mem : ∀ x, x ∈ P ↔ x ∈ L
theorem cpk_mem {M : List Spn} : ∀ k, ∀ x, x ∈ cpk M k ↔ ∃ j, j < k ∧ gQ M j = x
  | 0, x => by
    unfold cpk
    exact ⟨fun h => (List.not_mem_nil h).elim, fun ⟨j, hj, _⟩ => by omega⟩
  | k + 1, x => by
    have ih := cpk_mem (M := M) k x
    unfold cpk
    split
    · rename_i h
      rw [ih]
      constructor
      · rintro ⟨j, h1, h2⟩
        exact ⟨j, by omega, h2⟩
      · rintro ⟨j, h1, h2⟩
        by_cases e : j = k
        · subst e
          exact ⟨j - 1, by omega, by rw [← h.2, h2]⟩
        · exact ⟨j, by omega, h2⟩
    · rw [List.mem_append, ih, List.mem_singleton]
      constructor
      · rintro (⟨j, h1, h2⟩ | rfl)
        · exact ⟨j, by omega, h2⟩
        · exact ⟨k, by omega, rfl⟩
      · rintro ⟨j, h1, h2⟩
        by_cases e : j = k
        · subst e
          exact .inr h2.symm
        · exact .inl ⟨j, by omega, h2⟩
theorem sorted_at {M : List Spn} (hs : M.Pairwise PLe) {i j : Nat} (hij : i < j) (hj : j < M.length) : PLe (gQ M i) (gQ M j) := by
  rw [gQ_lt (by omega), gQ_lt hj]
  exact List.pairwise_iff_getElem.1 hs i j (by omega) hj hij
theorem cpk_up {M : List Spn} (hs : M.Pairwise PLe) : ∀ k, k ≤ M.length → (cpk M k).Pairwise PLt
  | 0, _ => by unfold cpk; exact List.Pairwise.nil
  | k + 1, hk => by
    have ih := cpk_up hs k (by omega)
    unfold cpk
    split
    · exact ih
    · rename_i h
      refine List.pairwise_append.2 ⟨ih, List.pairwise_singleton _ _, fun x hx y hy => ?_⟩
      rw [List.mem_singleton.1 hy]
      obtain ⟨j, hj, rfl⟩ := (cpk_mem k x).1 hx
      have h0 : 0 < k := by omega
      have hne : ¬ gQ M k = gQ M (k - 1) := fun e => h ⟨h0, e⟩
      have h1 := sorted_at hs (show k - 1 < k by omega) (by omega)
      have h2 : PLe (gQ M j) (gQ M (k - 1)) := by
        by_cases e : j = k - 1
        · rw [e]; exact .inr ⟨rfl, Int.le_refl _⟩
        · exact sorted_at hs (by omega) (by omega)
      have h3 : ¬ ((gQ M k).1 = (gQ M (k - 1)).1 ∧ (gQ M k).2 = (gQ M (k - 1)).2) := fun e => hne (Prod.ext e.1 e.2)
      unfold PLe at h1 h2
      unfold PLt
      omega
theorem cpk_ros {L M : List Spn} (hp : M.Perm L) (hs : M.Pairwise PLe) : RoS L (cpk M M.length) := by
  refine ⟨cpk_up hs _ (Nat.le_refl _), fun x => ?_⟩
  rw [cpk_mem, ← hp.mem_iff]
  constructor
  · rintro ⟨j, hj, rfl⟩
    rw [gQ_lt hj]
    exact List.getElem_mem hj
  · intro h
    obtain ⟨j, hj, rfl⟩ := List.getElem_of_mem h
    exact ⟨j, hj, gQ_lt hj⟩
theorem OwnQ.mono {w : World} {base base' : Nat} {v : Value} {L : List Spn} (h : OwnQ w base v L) (hb : base' ≤ base) : OwnQ w base' v L := by
  refine ⟨h.1, ?_⟩
  rcases h.2 with h | ⟨g', c', cur, e, hb2, r⟩
  · exact .inl h
  · exact .inr ⟨g', c', cur, e, by omega, r⟩
set_option maxRecDepth 100000 in
set_option maxHeartbeats 4000000 in
theorem rising_any (base g cap : Nat) (L : List Spn) (w : World) (h0 : 0 < L.length) (hl : L.length ≤ 65536) (ho : OwnQ w base (.slice (some ⟨g, 0, none⟩) L.length cap) L) :
    Calls Tryz.prog 60 #[.slice (some ⟨g, 0, none⟩) L.length cap] w fun e w' => (∃ g' c' P, e = .returned (.slice (some ⟨g', 0, none⟩) P.length c') ∧ OwnQ w' w.heap.size (.slice (some ⟨g', 0, none⟩) P.length c') P ∧ RoS L P) ∧ Below w.heap.size w w' := by
  have HC := hide (cloneP_any base g cap L w hl ho)
  clear ho
  go_enter Tryz.func60, Tryz.ntmps60
  go_upto_region 2 with (go_at_call 95; refine HC.out.mono ?_; rintro e w1 ⟨⟨v1, rfl, o1⟩, x1⟩; obtain ⟨a1, c1, hv1, hs1⟩ := own_shape (show w1.ownsRow _ 48 2 _ L.length (spCells L) from o1); obtain ⟨g1, hg1⟩ := hs1 h0; subst hg1 hv1; have O1 := hide o1; have X1 := hide x1; clear o1 x1 hs1)
  have HS := hide (sortP_any w1 w.heap.size g1 c1 L O1.out (by omega))
  clear HC
  go_upto_region 3 with (go_at_call 96; refine HS.out.mono ?_; rintro e w2 ⟨rfl, M, hp, hs, o2, k2⟩; have HPM := hide hp; have HSM := hide hs; have O2 := hide o2; have K2 := hide k2; clear hp hs o2 k2)
  have hml : M.length = L.length := HPM.out.length_eq
  have HCP : Hid (Calls Tryz.prog 99 #[.slice (some ⟨g1, 0, none⟩) L.length c1] w2 fun e w' => e = .returned (.slice (some ⟨g1, 0, none⟩) (cpk M M.length).length c1) ∧ OwnQ w' w.heap.size (.slice (some ⟨g1, 0, none⟩) (cpk M M.length).length c1) (cpk M M.length) ∧ Kept (fun k => k = g1) w2 w') := by
    have o2 := O2.out
    rw [← hml] at o2
    have := compact_any w.heap.size g1 c1 M w2 (by omega) (by omega) o2
    rw [hml] at this ⊢
    exact this
  have HGE := hide (World.ownsRow.lt (show w1.ownsRow w.heap.size 48 2 (.slice (some ⟨g1, 0, none⟩) L.length c1) L.length (spCells L) from O1.out) g1 rfl).1
  clear HS hml
  go_wp2_with (go_at_call 99; refine HCP.out.mono ?_; rintro e w3 ⟨rfl, o3, k3⟩; have O3 := hide o3; have K3 := hide k3; clear o3 k3)
  go_ret
  refine ⟨⟨g1, c1, cpk M M.length, rfl, O3.out, cpk_ros HPM.out HSM.out⟩, ?_⟩
  have hge := HGE.out
  exact X1.out.trans ((K2.out.trans K3.out).below X1.out.size (fun i hi => by omega))
end Go.Proofs.YtdgoilkgplnhfaaGreat
/-
  Things numbered by looks that are pairs of numbers. Condition: at most 2^32 things.
-/
namespace Go.Proofs.YtdgoilkgplnhfaaGreat
open Go.RowKit Go.Lib Go.Maps

set_option maxRecDepth 100000 in
set_option maxHeartbeats 4000000 in
theorem numP_any (N : Nat) (c0 c1 : Value) (look : Nat → Array Value) (lit : Nat → Lit) (w : World) (hN : N ≤ 4294967296) (hk : ∀ i, i < N → keyOf Tryz.prog 101 (.agg (look i)) = some (lit i)) (hls : ∀ i, i < N → (look i).size = 2) (hla : ∀ i, i < N → (look i).all (·.oneCell') = true) (hkl : ∀ i, i < N → WideAt.IsKeyLit (lit i))
    (hc : ∀ i, i < N → ∀ W, Below w.heap.size w W → Calls Tryz.prog 55 #[.int .i64 (i : Nat), c0, c1] W fun e w' => e = .returned (.agg (look i)) ∧ Below W.heap.size W w') :
    Calls Tryz.prog 54 #[.int .i64 (N : Nat), .func (.func 55) #[] #[c0, c1]] w fun e w' => (∃ v1 v2, e = .returned (.tuple #[v1, v2]) ∧ ∃ num fst, NmDone w.heap.size lit N v1 v2 num fst w') ∧ Below w.heap.size w w' := by
  obtain ⟨i3, hi3, hz30, hz31, hz32⟩ := info_parts Tryz.info3n
  have hz0 : ∀ W, (zeroValue 3).run Tryz.prog W = .ok (.int .i64 0) W := fun W => Tryz.zeroValue3 W
  have hmm : ∀ W : World, (Instr.makeMap 143 none).run Tryz.prog W = .ok (.map (some W.heap.size)) (W.alloc (.map #[] 0)) := fun W => rfl
  have HC := hide hc
  have HK := hide hk
  have HKL := hide hkl
  have HLS := hide hls
  have HLA := hide hla
  obtain ⟨hzv, hsz⟩ := zero_of_info Tryz.info101
  obtain ⟨z, hz⟩ : ∃ z, z = (#[.int .i64 0, .int .i64 0] : Array Value) := ⟨_, rfl⟩
  have hzs : z.size = 2 := by rw [hz]; simp
  rw [← hz] at hzv
  have HZS := hide hzs
  have HSZ := hide hsz
  clear hz hzs hsz hls hla
  clear hc hk hkl
  have S0 := hide (fun w2 h1 h2 => NmS.start 101 w lit N w2 h1 h2)
  go_enter Tryz.func54, Tryz.ntmps54
  go_wp2_with (at_make; refine wpList_make_full _ rfl (.tmp 12) (.tmp 12) 22 rfl w.heap.size 3 i3 (.int .i64 0) 1 Tryz.underlying22 hi3 hz30 hz31 .i64 .i64 _ _ N rfl rfl rfl rfl (by rw [hz32]; omega) (by unfold maxLen; omega) (by simp) ?_; intro w2 h1 h2; have S1 := hide (S0.out w2 h1 h2); clear h1 h2)
  go_loopg [5, 15] (N + 1) (fun g v2 x wr => ∃ (num fst : List Nat), x = .int .i64 (num.length : Nat) ∧ Hid (NmS 101 w lit N w.heap.size (.slice (some ⟨w.heap.size + 1, 0, none⟩) N N) v2 num fst wr) ∧ N - num.length < g)
  case atStart => exact ⟨[], [], rfl, S1, by simp⟩
  case round =>
    obtain ⟨num, fst, rfl, S, hg⟩ := hrel
    have HG := hide hg
    clear hg S1 S0
    have hle := S.out.le
    obtain ⟨a2, k2, hv2, _⟩ := own_shape S.out.o2
    subst hv2
    by_cases hi : num.length < N
    · have hi' : (num.length : Int) < (N : Int) := by omega
      have H1 := hide (HC.out num.length hi wr S.out.bel)
      go_wp2_with (fail)
      refine H1.out.mono ?_
      rintro e w3 ⟨rfl, x3⟩
      clear H1
      obtain ⟨m, hmm2⟩ : ∃ m, m = look num.length := ⟨_, rfl⟩
      have HI : Hid ((Tryz.prog.info? 101).map (·.size) = some m.size) := by unfold Hid; rw [HSZ.out, hmm2, HLS.out _ hi]
      have HZ2 : Hid (z.size = m.size) := by unfold Hid; rw [HZS.out, hmm2, HLS.out _ hi]
      have HAL : Hid (m.all (·.oneCell') = true) := by unfold Hid; rw [hmm2]; exact HLA.out _ hi
      have HK0 := HK.out num.length hi
      rw [← hmm2] at HK0 ⊢
      have HBZ := hide (heap_alloc_new w3 (.cells z 101))
      have HBM := heap_alloc_new w3 (.cells m 101)
      have y3 : Below w3.heap.size w3 (w3.alloc (.cells m 101)) := al (Below.refl _ _) _
      have S4 := S.out.below (bt x3 y3 (Nat.le_refl _))
      have bb3 : ∃ bb, bb = w3.heap.size := ⟨_, rfl⟩
      clear hmm2 x3 y3
      go_upto_region 7 with (refine wpList_store_row rfl 101 (.tmp 8) (.tmp 20) rfl w3.heap.size m rfl rfl 101 z HBZ.out HI.out HZ2.out HAL.out ?_; rw [World.setRow_alloc_new])
      generalize w3.alloc (.cells m 101) = w5 at *
      obtain ⟨bb, hbb⟩ := bb3
      rw [← hbb] at HBM ⊢
      clear hbb HBZ
      have HBM := hide HBM
      rename World => w3
      have S3 := hide S4
      clear S4
      obtain ⟨D, hown, hh, ha⟩ := S3.out.map
      have HK1 := hide HK0
      clear HK0
      have HOWN := hide hown
      have HA := hide ha
      have hfl : fst.length ≤ num.length := by
        have h := S3.out.nf
        exact pigeon num.length fst.length (gN fst) h.fstlt (fun i h1 j h2 e => by rw [← h.numfst i h1, ← h.numfst j h2, e])
      by_cases hm : lit num.length ∈ fst.map lit
      · have hhas : Maps.has D (lit num.length) = true := (hh _).2 hm
        have HHIT : Hid (∀ c : Int, D.atKey (lit num.length) (.lit (.int .i64 0)) = .lit (.int .i64 c) → ∃ n, n < fst.length ∧ lit (gN fst n) = lit num.length ∧ c = (n : Int)) := fun c hc => by
          obtain ⟨n, hn, e, rfl⟩ := atKey_lit HA.out hc hm
          rw [List.length_map] at hn
          refine ⟨n, hn, ?_, rfl⟩
          rw [← e, List.getElem_map, gN_lt hn]
        obtain ⟨⟨u1, q1⟩, q2⟩ := S3.out.slot hi
        have HST := hide (fun n hn he => S3.out.hit (n := n) hi hn he)
        go_wp2_with (first | (refine wpList_load_row rfl 101 (.tmp 8) rfl bb rfl 101 m (0, 0) _ HBM.out Tryz.underlying101 rfl HI.out ?_) | (at_lookup; refine wpList_lookup_own_ok_int _ rfl _ _ 143 rfl 101 3 .i64 keyed101 Tryz.underlying143 Tryz.underlying3 (hz0 _) w.heap.size _ D rfl HOWN.out _ _ rfl HK1.out ?_; intro c hat hwc; obtain ⟨n, hn, hne, rfl⟩ := HHIT.out c hat; have S4 := hide (HST.out n hn hne); clear hat hwc hn hne))
        go_roundg (N - (num.length + 1) + 1)
        case measure => have := HG.out; omega
        case rel => exact ⟨num ++ [n], fst, by simp, S4, by simp⟩
      · have hhas : Maps.has D (lit num.length) = false := by
          cases hx : Maps.has D (lit num.length) with
          | false => rfl
          | true => exact absurd ((hh _).1 hx) hm
        have HPL : Hid (plainElem (H := Unit) Tryz.prog 3 (.int .i64 (fst.length : Int)) = some (.lit (.int .i64 (fst.length : Int)), [])) := plainElem_int Tryz.underlying3 (by simp [Lit.wf, IntKind.min, IntKind.max, IntKind.signed, IntKind.bits]; omega)
        have HFN : Hid ((fst.map lit).length < maxLen) := by unfold Hid maxLen; rw [List.length_map]; omega
        have HPUT := hide (fun (w4 : World) h1 (t4 : w3.mapTurned w4 w.heap.size) => S3.out.put (w' := w4) hm (HKL.out _ hi) hh ha HOWN.out h1 t4)
        go_wp2_with (first
          | (refine wpList_load_row rfl 101 (.tmp 8) rfl bb rfl 101 m (0, 0) _ HBM.out Tryz.underlying101 rfl HI.out ?_)
          | (at_lookup; refine wpList_lookup_own_ok_int _ rfl _ _ 143 rfl 101 3 .i64 keyed101 Tryz.underlying143 Tryz.underlying3 (hz0 _) w.heap.size _ D rfl HOWN.out _ _ rfl HK1.out ?_; intro c hat hwc; clear hat hwc)
          | (at_mapUpdate; refine wpList_mapUpdate_in _ rfl _ _ _ 143 rfl 101 3 keyed101 Tryz.underlying143 _ w.heap.size _ D rfl HOWN.out HFN.out _ _ _ rfl rfl HK1.out _ [] HPL.out ?_; intro w4 h4 t4; have S4 := hide (HPUT.out w4 h4 t4); have O5 := hide S4.out.o5; have HN5 := hide (one_int w4 num.length 3); have HS5 : Hid (w.heap.size ≤ (w4.alloc (.cells #[.int .i64 (num.length : Nat)] 3)).heap.size) := S4.out.s5; clear h4 t4)
          | (at_builtin; refine wpList_append_view rfl (.tmp 34) (.tmp 36) 22 rfl w.heap.size 3 i3 (.int .i64 0) 1 8 Tryz.underlying22 hi3 hz30 hz31 hz32 rfl (by decide) _ fst.length (nCells fst) rfl O5.out ⟨w4.heap.size, 0, none⟩ 1 1 [.int .i64 (num.length : Nat)] rfl rfl HN5.out (by simp [Value.oneCell']) (by decide) (by unfold maxLen; omega) (by omega) HS5.out ?_; intro v6 w6 g1 g2; obtain ⟨⟨⟨u6, q1⟩, q2⟩, S6⟩ := S4.out.app hi g1 g2; have S6 := hide S6; clear g1 g2))
        go_roundg (N - (num.length + 1) + 1)
        case measure => have := HG.out; omega
        case rel => exact ⟨num ++ [fst.length], fst ++ [num.length], by simp, S6, by simp⟩
    · have hi' : ¬ (num.length : Int) < (N : Int) := by omega
      go_wp2
      go_ret2
      refine ⟨⟨_, _, rfl, num, fst, ?_⟩, S.out.bel⟩
      have e : num.length = N := by omega
      have h1 := S.out.o1
      rw [e, Nat.sub_self, List.replicate_zero, List.append_nil] at h1
      exact ⟨h1, S.out.o2, S.out.ap, e, by have := S.out.nf; rw [e] at this; exact this⟩


end Go.Proofs.YtdgoilkgplnhfaaGreat
