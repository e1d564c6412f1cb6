/-
  An automaton as it lies in memory; its width, a step of it. Condition: lists no longer than a process can hold.
-/
import Derived.Test.YtdgoilkgplnhfabGreatB04
import Derived.Laws.BytesArg
import Derived.Deep.DeepCutAuto
import Derived.Deep.LoopGhost
namespace Go.Proofs.YtdgoilkgplnhfabGreat
open Go.RowKit Go.Lib
def NAt (w : World) (ao : Option Addr) (L : List Nat) : Prop := L = [] ∨ ∃ b off, ao = some ⟨b, off, none⟩ ∧ b < w.heap.size ∧ ∀ i (h : i < L.length), w.cell? ⟨b, off + i, none⟩ = some (.int .i64 (L[i] : Int))
theorem NAt.below {w w' : World} {ao : Option Addr} {L : List Nat} (h : NAt w ao L) (hb : Below w.heap.size w w') : NAt w' ao L := by
  rcases h with h | ⟨b, off, h1, h2, h3⟩
  · exact .inl h
  · exact .inr ⟨b, off, h1, Nat.lt_of_lt_of_le h2 hb.size, fun i hi => (hb.cell (p := ⟨b, off + i, none⟩) h2).trans (h3 i hi)⟩
theorem NAt.get {w : World} {ao : Option Addr} {L : List Nat} (h : NAt w ao L) {i : Nat} (hi : i < L.length) : ∃ b off, ao = some ⟨b, off, none⟩ ∧ b < w.heap.size ∧ w.cell? ⟨b, off + i, none⟩ = some (.int .i64 (L[i] : Int)) := by
  rcases h with h | ⟨b, off, h1, h2, h3⟩
  · rw [h] at hi; cases hi
  · exact ⟨b, off, h1, h2, h3 i hi⟩
theorem OwnN.at {w : World} {base : Nat} {v : Value} {L : List Nat} (h : OwnN w base v L) : ∃ ao cap, v = .slice ao L.length cap ∧ NAt w ao L := by
  have hh : w.ownsRow base 3 1 v L.length (nCells L) := h
  rcases hh.2 with ⟨rfl, hn⟩ | ⟨g, cap, cur, rfl, hb, hg, r⟩
  · exact ⟨none, 0, by rw [hn], .inl (List.eq_nil_of_length_eq_zero hn)⟩
  · refine ⟨_, cap, rfl, .inr ⟨g, 0, rfl, lt_of_block hg, fun i hi => ?_⟩⟩
    have := h.cell hi
    simpa using this
def auV (bs : By) (na : Option Addr) (nl nc : Nat) (oa : Option Addr) (ol oc : Nat) : Value := .agg #[.string ⟨bs.toArray⟩, .slice na nl nc, .slice oa ol oc]
set_option maxRecDepth 100000 in
theorem width_any (bs : By) (na oa : Option Addr) (nl nc ol oc : Nat) (w : World) (hn : nl ≤ 140737488351232) (ho : 0 < ol) :
    Calls Tryz.prog 48 #[auV bs na nl nc oa ol oc] w fun e w' => e = .returned (.int .i64 ((nl / ol : Nat) : Int)) ∧ Below w.heap.size w w' := by
  have hq : (nl : Int).tdiv (ol : Int) = ((nl / ol : Nat) : Int) := by rw [Int.tdiv_eq_ediv_of_nonneg (by omega)]; rfl
  have hle : nl / ol ≤ nl := Nat.div_le_self _ _
  generalize nl / ol = m at *
  have hw : IntKind.i64.wrap (m : Int) = (m : Int) := by simp [IntKind.wrap, IntKind.bits, IntKind.signed]; omega
  have h0 : ¬ (ol : Int) = 0 := by omega
  have X := hide (al (Below.refl w.heap.size w) (.cells #[.string ⟨bs.toArray⟩, .slice na nl nc, .slice oa ol oc] 24))
  unfold auV
  go_enter Tryz.func48, Tryz.ntmps48
  go_wp2
  go_ret
  exact ⟨rfl, X.out⟩
theorem w64_n (n : Nat) (h : n ≤ 9223372036854775807) : IntKind.i64.wrap (n : Int) = (n : Int) := by simp [IntKind.wrap, IntKind.bits, IntKind.signed]; omega
set_option maxRecDepth 100000 in
set_option maxHeartbeats 2000000 in
theorem step_any (bs : By) (na oa : Option Addr) (nc oc ol s b W c : Nat) (NX : List Nat) (w : World) (hn : NX.length ≤ 140737488351232) (ho : 0 < ol) (hW : NX.length / ol = W) (hb : b < bs.length) (hc : (bs[b]).toNat = c) (hi : s * W + c < NX.length) (hat : NAt w na NX) :
    Calls Tryz.prog 27 #[auV bs na NX.length nc oa ol oc, .int .i64 (s : Nat), .int .i64 (b : Nat)] w fun e w' => e = .returned (.int .i64 ((NX[s * W + c] : Nat) : Int)) ∧ Below w.heap.size w w' := by
  obtain ⟨nb, off, rfl, hnb, cx⟩ := hat.get hi
  generalize NX[s * W + c] = r at *
  have hwd := fun W' => width_any bs (some ⟨nb, off, none⟩) oa NX.length nc ol oc W' hn ho
  rw [hW] at hwd
  have hsW : s * W ≤ 140737488351232 := by omega
  have hbt : c < 256 := by rw [← hc]; exact (bs[b]).toNat_lt
  obtain ⟨y, hy⟩ : ∃ y, bs[b] = y := ⟨_, rfl⟩
  have hg : ∀ hk, (⟨bs.toArray⟩ : ByteArray)[b]'hk = y := fun _ => hy
  have f2 : IntKind.i64.wrap ((y.toNat : Nat) : Int) = (c : Int) := by rw [← hy, hc]; exact w64_n _ (by omega)
  clear hc hy
  have f1 : IntKind.i64.wrap ((s : Int) * (W : Int)) = ((s * W : Nat) : Int) := by rw [show (s : Int) * (W : Int) = ((s * W : Nat) : Int) by simp]; exact w64_n _ (by omega)
  generalize hm : s * W = m at *
  have f3 : IntKind.i64.wrap ((m : Int) + (c : Int)) = ((m + c : Nat) : Int) := by rw [show (m : Int) + (c : Int) = ((m + c : Nat) : Int) by simp]; exact w64_n _ (by omega)
  have hlb : (b : Int) < (bs.length : Int) := by omega
  have hln : (m : Int) + (c : Int) < (NX.length : Int) := by omega
  have hlz : (0 : Int) ≤ (m : Int) + (c : Int) := by omega
  have hlt : ((m : Int) + (c : Int)).toNat = m + c := by omega
  have X1 := hide (al (Below.refl w.heap.size w) (.cells #[.string ⟨bs.toArray⟩, .slice (some ⟨nb, off, none⟩) NX.length nc, .slice oa ol oc] 24))
  have B1 := heap_alloc_new w (.cells #[.string ⟨bs.toArray⟩, .slice (some ⟨nb, off, none⟩) NX.length nc, .slice oa ol oc] 24)
  have c0 : (w.alloc (.cells #[.string ⟨bs.toArray⟩, .slice (some ⟨nb, off, none⟩) NX.length nc, .slice oa ol oc] 24)).cell? ⟨w.heap.size, 0, none⟩ = some (.string ⟨bs.toArray⟩) := by rw [cell_of_row _ _ _ _ _ _ B1]; rfl
  have c1 : (w.alloc (.cells #[.string ⟨bs.toArray⟩, .slice (some ⟨nb, off, none⟩) NX.length nc, .slice oa ol oc] 24)).cell? ⟨w.heap.size, 1, none⟩ = some (.slice (some ⟨nb, off, none⟩) NX.length nc) := by rw [cell_of_row _ _ _ _ _ _ B1]; rfl
  have c2 : (w.alloc (.cells #[.string ⟨bs.toArray⟩, .slice (some ⟨nb, off, none⟩) NX.length nc, .slice oa ol oc] 24)).cell? ⟨w.heap.size, 2, none⟩ = some (.slice oa ol oc) := by rw [cell_of_row _ _ _ _ _ _ B1]; rfl
  have c3 := (X1.out.cell (p := ⟨nb, off + (m + c), none⟩) hnb).trans cx
  have hl1 := lt_of_block B1
  have hl2 : nb < (w.alloc (.cells #[.string ⟨bs.toArray⟩, .slice (some ⟨nb, off, none⟩) NX.length nc, .slice oa ol oc] 24)).heap.size := Nat.lt_of_lt_of_le hnb X1.out.size
  clear cx B1
  unfold auV
  go_enter Tryz.func27, Tryz.ntmps27
  go_wp2
  generalize w.alloc (.cells #[.string ⟨bs.toArray⟩, .slice (some ⟨nb, off, none⟩) NX.length nc, .slice oa ol oc] 24) = w1 at *
  have HDr : Hid (Below w1.heap.size w1 w1.drew) := (Below.refl _ _).drew
  refine wp_region_quiet (C := fun w' => Below w1.heap.size w1 w') (by kernel_rfl) (by kernel_rfl) HDr.out ?_
  refine QW.out (l := _ :: _) ?_
  iterate 4 (refine QW.take (by rfl) ?_; apply Exists.intro; refine ⟨fun w' hw' => ?_, ?_⟩; (· (have g0 := (hw'.cell (p := ⟨w.heap.size, 0, none⟩) hl1).trans c0; have g1 := (hw'.cell (p := ⟨w.heap.size, 1, none⟩) hl1).trans c1; have g2 := (hw'.cell (p := ⟨w.heap.size, 2, none⟩) hl1).trans c2; have g3 := (hw'.cell (p := ⟨nb, off + (m + c), none⟩) hl2).trans c3; go_simp; first | done | (first | done | rfl))); try simp only [Act.put, List.setIfInBounds_toArray, List.set_cons_zero, List.set_cons_succ])
  iterate 1 (refine QW.take (by rfl) ?_; apply Exists.intro; refine ⟨fun w' hw' => ?_, ?_⟩; (· (have g0 := (hw'.cell (p := ⟨w.heap.size, 0, none⟩) hl1).trans c0; have g1 := (hw'.cell (p := ⟨w.heap.size, 1, none⟩) hl1).trans c1; have g2 := (hw'.cell (p := ⟨w.heap.size, 2, none⟩) hl1).trans c2; have g3 := (hw'.cell (p := ⟨nb, off + (m + c), none⟩) hl2).trans c3; go_simp; (refine (hwd _).mono ?_; rintro e w2 ⟨rfl, x2⟩; exact ⟨rfl, hw'.trans (x2.mono hw'.size)⟩))); try simp only [Act.put, List.setIfInBounds_toArray, List.set_cons_zero, List.set_cons_succ])
  iterate 10 (refine QW.take (by rfl) ?_; apply Exists.intro; refine ⟨fun w' hw' => ?_, ?_⟩; (· (have g0 := (hw'.cell (p := ⟨w.heap.size, 0, none⟩) hl1).trans c0; have g1 := (hw'.cell (p := ⟨w.heap.size, 1, none⟩) hl1).trans c1; have g2 := (hw'.cell (p := ⟨w.heap.size, 2, none⟩) hl1).trans c2; have g3 := (hw'.cell (p := ⟨nb, off + (m + c), none⟩) hl2).trans c3; go_simp; first | done | (first | done | rfl))); try simp only [Act.put, List.setIfInBounds_toArray, List.set_cons_zero, List.set_cons_succ])
  refine QW.nil ?_
  intro w7 x7
  have X7 := hide (bt X1.out x7 (Nat.le_refl _))
  clear x7 c0 c1 c2 c3
  go_wp2
  go_ret
  exact ⟨rfl, X7.out⟩
abbrev RN := Value × List Nat
structure Rws (w : World) (base : Nat) (R : List RN) : Prop where
  own : ∀ j (h : j < R.length), OwnN w base (R[j]).1 (R[j]).2
  ap : ∀ j (h : j < R.length) k (h' : k < R.length), j ≠ k → ∀ b, (R[j]).1.ownBlock = some b → ¬ (R[k]).1.ownBlock = some b
section
variable {w w' : World} {base : Nat} {R : List RN}
theorem Rws.below (h : Rws w base R) (x : Below w.heap.size w w') : Rws w' base R := ⟨fun j hj => own_below (h.own j hj) x, h.ap⟩
theorem Rws.kept {F : Nat → Prop} (h : Rws w base R) (x : Kept F w w') (hF : ∀ j (h : j < R.length) b, (R[j]).1.ownBlock = some b → ¬ F b) : Rws w' base R := ⟨fun j hj => own_kept (h.own j hj) x (hF j hj), h.ap⟩
theorem Rws.upd {F : Nat → Prop} (h : Rws w base R) {i : Nat} (hi : i < R.length) {v' : Value} {L' : List Nat} (h1 : OwnN w' base v' L') (hk : Kept F w w') (hF : ∀ b, F b → (R[i]).1.ownBlock = some b) (hv : ∀ b, v'.ownBlock = some b → (R[i]).1.ownBlock = some b ∨ w.heap.size ≤ b) : Rws w' base (R.set i (v', L')) := by
  refine ⟨fun j hj => ?_, fun j hj k hk' hne b hb hb2 => ?_⟩
  · rw [List.length_set] at hj
    by_cases hji : i = j
    · subst hji
      rw [List.getElem_set_self]
      exact h1
    · rw [List.getElem_set_ne hji]
      exact own_kept (h.own j hj) hk (fun b hb hf => h.ap j hj i hi (fun e => hji e.symm) b hb (hF b hf))
  · rw [List.length_set] at hj hk'
    have hlt : ∀ m (hm : m < R.length) b, (R[m]).1.ownBlock = some b → b < w.heap.size := fun m hm b hb => (World.ownsRow.lt (show w.ownsRow base 3 1 (R[m]).1 _ (nCells _) from h.own m hm) b hb).2
    by_cases hji : i = j
    · subst hji
      rw [List.getElem_set_self] at hb
      rw [List.getElem_set_ne hne] at hb2
      rcases hv b hb with h3 | h3
      · exact h.ap i hi k hk' hne b h3 hb2
      · have := hlt k hk' b hb2; omega
    · rw [List.getElem_set_ne hji] at hb
      by_cases hki : i = k
      · subst hki
        rw [List.getElem_set_self] at hb2
        rcases hv b hb2 with h3 | h3
        · exact h.ap j hj i hi hne b hb h3
        · have := hlt j hj b hb; omega
      · rw [List.getElem_set_ne hki] at hb2
        exact h.ap j hj k hk' hne b hb hb2
theorem Rws.app (h : Rws w base R) {i : Nat} (hi : i < R.length) {v' : Value} {x : Nat} {L : List Nat} (h1 : w'.ownsRow base 3 1 v' (L.length + 1) (nCells L ++ [.int .i64 (x : Int)])) (h2 : AppAt w w' (R[i]).1 v') : Rws w' base (R.set i (v', L ++ [x])) := by
  have o : OwnN w' base v' (L ++ [x]) := by
    unfold OwnN
    rw [nCells_snoc, List.length_append, List.length_singleton]
    exact h1
  rcases h2 with ⟨q, a, b, c⟩ | ⟨a, b⟩
  · exact h.upd hi o (kept_of_grown c) (fun k hk => a.trans hk) (fun k hk => .inl (by rw [a, ← b]; exact hk))
  · exact h.upd (F := fun _ => False) hi o (Kept.of_below (below_of_grown a)) (fun k hk => hk.elim) (fun k hk => .inr (b k hk))
theorem Rws.store (h : Rws w base R) {i : Nat} (hi : i < R.length) {g n cap : Nat} {L : List Nat} (hR : R[i] = (.slice (some ⟨g, 0, none⟩) n cap, L)) (k x : Nat) : Rws (w.setCell ⟨g, k, none⟩ (.int .i64 (x : Int))) base (R.set i (.slice (some ⟨g, 0, none⟩) n cap, L.set k x)) := by
  have ho := h.own i hi
  rw [hR] at ho
  obtain ⟨o1, k1⟩ := ho.store k x
  exact h.upd hi o1 k1 (fun b hb => by rw [hR, hb]; rfl) (fun b hb => .inl (by rw [hR]; exact hb))
theorem Rws.cons (h : Rws w base R) (x : Below w.heap.size w w') {v : Value} {L : List Nat} (ho : OwnN w' base v L) (hb : ∀ b, v.ownBlock = some b → w.heap.size ≤ b) : Rws w' base (R ++ [(v, L)]) := by
  have h' := h.below x
  have hlt : ∀ m (hm : m < R.length) b, (R[m]).1.ownBlock = some b → b < w.heap.size := fun m hm b hb => (World.ownsRow.lt (show w.ownsRow base 3 1 (R[m]).1 _ (nCells _) from h.own m hm) b hb).2
  refine ⟨fun j hj => ?_, fun j hj k hk hne b h1 h2 => ?_⟩
  · by_cases hjl : j < R.length
    · rw [List.getElem_append_left hjl]; exact h'.own j hjl
    · have : j = R.length := by rw [List.length_append, List.length_singleton] at hj; omega
      subst this
      rw [List.getElem_append_right (Nat.le_refl _)]
      simpa using ho
  · by_cases hjl : j < R.length
    · rw [List.getElem_append_left hjl] at h1
      by_cases hkl : k < R.length
      · rw [List.getElem_append_left hkl] at h2; exact h.ap j hjl k hkl hne b h1 h2
      · have : k = R.length := by rw [List.length_append, List.length_singleton] at hk; omega
        subst this
        rw [List.getElem_append_right (Nat.le_refl _)] at h2
        have := hlt j hjl b h1
        have := hb b (by simpa using h2)
        omega
    · have : j = R.length := by rw [List.length_append, List.length_singleton] at hj; omega
      subst this
      rw [List.getElem_append_right (Nat.le_refl _)] at h1
      have hkl : k < R.length := by rw [List.length_append, List.length_singleton] at hk; omega
      rw [List.getElem_append_left hkl] at h2
      have := hlt k hkl b h2
      have := hb b (by simpa using h1)
      omega
theorem Rws.nil (w : World) (base : Nat) : Rws w base [] := ⟨fun j hj => (by cases hj), fun j hj => (by cases hj)⟩
end
def OwnB (w : World) (base : Nat) (v : Value) (L : List Bool) : Prop := w.ownsRow base 4 1 v L.length (L.map Value.bool)
theorem made_falses (n : Nat) : (madeCells (Value.bool false).cells (n * 1)).toList = (List.replicate n false).map Value.bool := by
  simp only [madeCells, Value.cells, List.map_replicate, Nat.mul_one]
  rw [List.eq_replicate_iff]
  refine ⟨by simp, fun b hb => ?_⟩
  simp only [Array.toList_map, List.mem_map] at hb
  obtain ⟨x, _, rfl⟩ := hb
  simp [Nat.mod_one]
theorem Tryz.info4n : (Tryz.prog.info? 4).map (fun i => (i.zero, i.size, i.bytes)) = some (some (.bool false), 1, 1) := by kernel_rfl
theorem OwnB.len {w : World} {base g cap n : Nat} {L : List Bool} (h : OwnB w base (.slice (some ⟨g, 0, none⟩) n cap) L) : n = L.length := by
  have hh : w.ownsRow base 4 1 (.slice (some ⟨g, 0, none⟩) n cap) L.length (L.map Value.bool) := h
  rcases hh.2 with ⟨e, e2⟩ | ⟨g', c', cur, e, _⟩
  · cases e
  · injection e with _ e2 _
theorem OwnB.cell {w : World} {base g cap n : Nat} {L : List Bool} (h : OwnB w base (.slice (some ⟨g, 0, none⟩) n cap) L) {i : Nat} (hi : i < L.length) : w.cell? ⟨g, i, none⟩ = some (.bool L[i]) ∧ w.frozen? ⟨g, i, none⟩ = false := by
  obtain rfl := h.len
  have hh : w.ownsRow base 4 1 (.slice (some ⟨g, 0, none⟩) L.length cap) L.length (L.map Value.bool) := h
  exact ⟨by rw [hh.cellAt i (by omega)]; simp [hi], hh.frozenAt _⟩
theorem OwnB.store {w : World} {base g cap n : Nat} {L : List Bool} (h : OwnB w base (.slice (some ⟨g, 0, none⟩) n cap) L) (i : Nat) (x : Bool) : OwnB (w.setCell ⟨g, i, none⟩ (.bool x)) base (.slice (some ⟨g, 0, none⟩) n cap) (L.set i x) ∧ Kept (fun k => k = g) w (w.setCell ⟨g, i, none⟩ (.bool x)) := by
  obtain rfl := h.len
  have hh : w.ownsRow base 4 1 (.slice (some ⟨g, 0, none⟩) L.length cap) L.length (L.map Value.bool) := h
  obtain ⟨h1, h2⟩ := hh.stored i (.bool x)
  refine ⟨?_, (kept_of_grown h2).mono (fun k hk => by injection hk with hk; exact hk.symm)⟩
  unfold OwnB
  rw [List.length_set, List.map_set]
  exact h1
theorem OwnN.slot {w : World} {base g cap n : Nat} {L : List Nat} (h : OwnN w base (.slice (some ⟨g, 0, none⟩) n cap) L) {i : Nat} (hi : i < L.length) : w.cell? ⟨g, i, none⟩ = some (.int .i64 (L[i] : Int)) ∧ w.frozen? ⟨g, i, none⟩ = false := by
  refine ⟨h.cell hi, ?_⟩
  have hh : w.ownsRow base 3 1 (.slice (some ⟨g, 0, none⟩) n cap) L.length (nCells L) := h
  have hn : n = L.length := by
    rcases hh.2 with ⟨e, e2⟩ | ⟨g', c', cur, e, _⟩
    · cases e
    · injection e with _ e2 _
  subst hn
  exact hh.frozenAt _
def Lab (l : Int) : Prop := 0 ≤ l ∧ l ≤ 65535
instance (l : Int) : Decidable (Lab l) := inferInstanceAs (Decidable (0 ≤ l ∧ l ≤ 65535))
set_option maxRecDepth 100000 in
theorem isLabel_any (l : Int) (w : World) : Calls Tryz.prog 33 #[.int .i64 l] w fun e w' => e = .returned (.bool (decide (Lab l))) ∧ w' = w := by
  by_cases h1 : 0 ≤ l
  · by_cases h2 : l ≤ 65535
    · have HE : Hid (decide (Lab l) = true) := decide_eq_true ⟨h1, h2⟩
      go_enter Tryz.func33, Tryz.ntmps33
      go_wp2
      go_ret
      exact ⟨by rw [HE.out]; first | rfl | simp_all, rfl⟩
    · have HE : Hid (decide (Lab l) = false) := decide_eq_false (fun h => h2 h.2)
      go_enter Tryz.func33, Tryz.ntmps33
      go_wp2
      go_ret
      exact ⟨by rw [HE.out]; first | rfl | simp_all, rfl⟩
  · have HE : Hid (decide (Lab l) = false) := decide_eq_false (fun h => h1 h.1)
    go_enter Tryz.func33, Tryz.ntmps33
    go_wp2
    go_ret
    exact ⟨by rw [HE.out]; first | rfl | simp_all, rfl⟩
def uCells (L : List Nat) : List Value := L.map fun (n : Nat) => Value.int .u8 (n : Int)
def OwnU (w : World) (base : Nat) (v : Value) (L : List Nat) : Prop := w.ownsRow base 5 1 v L.length (uCells L)
theorem Tryz.info5n : (Tryz.prog.info? 5).map (fun i => (i.zero, i.size, i.bytes)) = some (some (.int .u8 0), 1, 1) := by kernel_rfl
theorem made_bytes (n : Nat) : (madeCells (Value.int .u8 0).cells (n * 1)).toList = uCells (List.replicate n 0) := by
  unfold uCells
  simp only [madeCells, Value.cells, List.map_replicate, Nat.mul_one]
  rw [List.eq_replicate_iff]
  refine ⟨by simp, fun b hb => ?_⟩
  simp only [Array.toList_map, List.mem_map] at hb
  obtain ⟨x, _, rfl⟩ := hb
  simp [Nat.mod_one]
theorem OwnU.slot {w : World} {base g n : Nat} {L : List Nat} (h : OwnU w base (.slice (some ⟨g, 0, none⟩) n n) L) {i : Nat} (hi : i < L.length) : n = L.length ∧ w.cell? ⟨g, i, none⟩ = some (.int .u8 (L[i] : Int)) ∧ w.frozen? ⟨g, i, none⟩ = false := by
  have hh : w.ownsRow base 5 1 (.slice (some ⟨g, 0, none⟩) n n) L.length (uCells L) := h
  have hn : n = L.length := by
    rcases hh.2 with ⟨e, e2⟩ | ⟨g', c', cur, e, _⟩
    · cases e
    · injection e with _ e2 _
  subst hn
  exact ⟨rfl, by rw [hh.cellAt i (by omega)]; simp [uCells, hi], hh.frozenAt _⟩
theorem OwnU.store {w : World} {base g n : Nat} {L : List Nat} (h : OwnU w base (.slice (some ⟨g, 0, none⟩) n n) L) (hn : n = L.length) (i x : Nat) : OwnU (w.setCell ⟨g, i, none⟩ (.int .u8 (x : Int))) base (.slice (some ⟨g, 0, none⟩) n n) (L.set i x) ∧ Kept (fun k => k = g) w (w.setCell ⟨g, i, none⟩ (.int .u8 (x : Int))) := by
  subst hn
  have hh : w.ownsRow base 5 1 (.slice (some ⟨g, 0, none⟩) L.length L.length) L.length (uCells L) := h
  obtain ⟨h1, h2⟩ := hh.stored i (.int .u8 (x : Int))
  refine ⟨?_, (kept_of_grown h2).mono (fun k hk => by injection hk with hk; exact hk.symm)⟩
  unfold OwnU
  rw [List.length_set, show uCells (L.set i x) = (uCells L).set i (.int .u8 (x : Int)) by simp [uCells, List.map_set]]
  exact h1
def btOf (L : List Nat) : By := L.map UInt8.ofNat
set_option maxRecDepth 100000 in
set_option maxHeartbeats 2000000 in
theorem byteColumns_any (ao : Option Addr) (cap : Nat) (L : List Nat) (w : World) (hl : L.length ≤ 4294967296) (h256 : ∀ x ∈ L, x < 256) (hat : NAt w ao L) :
    Calls Tryz.prog 26 #[.slice ao L.length cap] w fun e w' => e = .returned (.string ⟨(btOf L).toArray⟩) ∧ Below w.heap.size w w' := by
  obtain ⟨i5, hi5, hz50, hz51, hz52⟩ := info_parts Tryz.info5n
  have HAT := hide hat
  have HX := hide h256
  clear hat h256
  go_enter Tryz.func26, Tryz.ntmps26
  go_wp2_with (at_make; refine wpList_make_full _ rfl (.tmp 7) (.tmp 7) 74 rfl w.heap.size 5 i5 (.int .u8 0) 1 Tryz.underlying74 hi5 hz50 hz51 .i64 .i64 _ _ L.length rfl rfl rfl rfl (by rw [hz52]; omega) (by unfold maxLen; omega) (Nat.le_refl _) ?_; intro w2 h1 h2; have X2 := hide (below_of_grown h2); have O2 : Hid (OwnU w2 w.heap.size (.slice (some ⟨w.heap.size, 0, none⟩) L.length L.length) (L.take 0 ++ List.replicate (L.length - 0) 0)) := (by unfold Hid OwnU; rw [made_bytes] at h1; simpa using h1); clear h1 h2)
  go_loopg [11] (L.length + 1) (fun g x wr => ∃ i : Nat, x = .int .i64 i ∧ i ≤ L.length ∧ Hid (OwnU wr w.heap.size (.slice (some ⟨w.heap.size, 0, none⟩) L.length L.length) (L.take i ++ List.replicate (L.length - i) 0)) ∧ Hid (Below w.heap.size w wr) ∧ L.length - i < g)
  case atStart => exact ⟨0, rfl, by omega, O2, X2, by omega⟩
  case round =>
    obtain ⟨i, rfl, hi1, O, XB, hg⟩ := hrel
    have HG := hide hg
    clear hg O2 X2
    by_cases hi : i < L.length
    · have hi' : (i : Int) < (L.length : Int) := by omega
      obtain ⟨b, off, rfl, hb, c0⟩ := (HAT.out.below XB.out).get hi
      have hx := HX.out L[i] (List.getElem_mem hi)
      have hll : (L.take i ++ List.replicate (L.length - i) 0).length = L.length := by simp; omega
      obtain ⟨u1, q1, q2⟩ : ∃ u, wr.cell? ⟨w.heap.size, i, none⟩ = some u ∧ wr.frozen? ⟨w.heap.size, i, none⟩ = false := by obtain ⟨_, q1, q2⟩ := O.out.slot (i := i) (by omega); exact ⟨_, q1, q2⟩
      obtain ⟨o3, k3⟩ := O.out.store hll.symm i L[i]
      have e3 : (L.take i ++ List.replicate (L.length - i) 0).set i L[i] = L.take (i + 1) ++ List.replicate (L.length - (i + 1)) 0 := by
        rw [List.set_append_right _ _ (by simp; omega), List.take_succ_eq_append_getElem hi, List.append_assoc]
        congr 1
        obtain ⟨m, hm⟩ : ∃ m, L.length - i = m + 1 := ⟨L.length - i - 1, by omega⟩
        rw [hm, show L.length - (i + 1) = m by omega, show i - (L.take i).length = 0 by simp; omega]
        rfl
      rw [e3] at o3
      have O3 := hide o3
      have X3 := hide (XB.out.trans (k3.below XB.out.size (fun k hk => by omega)))
      have f1 : IntKind.u8.wrap ((L[i] : Nat) : Int) = ((L[i] : Nat) : Int) := by simp [IntKind.wrap, IntKind.bits, IntKind.signed]; omega
      generalize L[i] = y at *
      clear o3 k3 e3 hll
      go_wp2
      go_roundg (L.length - (i + 1) + 1)
      case measure => have := HG.out; omega
      case rel => exact ⟨i + 1, by first | rfl | go_num | (congr 1; omega), by omega, O3, X3, by omega⟩
    · have hi' : ¬ (i : Int) < (L.length : Int) := by omega
      obtain rfl : i = L.length := by omega
      have o4 : OwnU wr w.heap.size (.slice (some ⟨w.heap.size, 0, none⟩) L.length L.length) L := by have := O.out; rwa [Nat.sub_self, List.replicate_zero, List.append_nil, List.take_length] at this
      have hcv : (convert 74 9 (.slice (some ⟨w.heap.size, 0, none⟩) L.length L.length)).run Tryz.prog wr = .ok (.string (strOfNums (L.map fun b : Nat => (b : Int)))) wr := by
        refine run_convert_bytes_arg wr 74 5 Tryz.underlying74 Tryz.underlying5 w.heap.size 0 L.length L.length (L.map fun b : Nat => (b : Int)) (by simp) (fun i hi => ?_) 9 Tryz.underlying9
        rw [Nat.zero_add, (o4.slot hi).2.1]
        simp [List.getD_eq_getElem?_getD, hi]
      have HE : Hid (strOfNums (L.map fun b : Nat => (b : Int)) = ⟨(btOf L).toArray⟩) := by
        unfold Hid strOfNums btOf
        rw [List.map_map]
        rfl
      rw [HE.out] at hcv
      clear o4
      go_wp2
      go_ret
      exact ⟨rfl, XB.out⟩
end Go.Proofs.YtdgoilkgplnhfabGreat
namespace Go.Proofs.YtdgoilkgplnhfabGreat
structure HopS (D : DF) (k m : Nat) (f : Nat → Nat) : Prop where
  lt : ∀ s, s < D.n → f s < m
  co : ∀ s, s < D.n → ∀ t, t < D.n → D.Eqv s t → f s = f t
  ou : ∀ s, s < D.n → ∀ t, t < D.n → f s = f t → D.ou s = D.ou t
  hop : ∀ s, s < D.n → ∀ t, t < D.n → f s = f t → ∀ c, c < D.W → f (D.nx s c) = f (D.nx t c) ∨ k ≤ f (D.nx s c) ∨ k ≤ f (D.nx t c)
structure SplS (D : DF) (k m0 : Nat) (f0 : Nat → Nat) (C m : Nat) (f : Nat → Nat) : Prop where
  lt : ∀ s, s < D.n → f s < m
  mle : m0 ≤ m
  re : ∀ s, s < D.n → ∀ t, t < D.n → f s = f t → f0 s = f0 t
  st : ∀ c, c < C → ∀ s, s < D.n → ∀ t, t < D.n → f s = f t → (f0 (D.nx s c) = k ↔ f0 (D.nx t c) = k)
  kp : ∀ s, s < D.n → f s = f0 s ∨ m0 ≤ f s
  co : ∀ s, s < D.n → ∀ t, t < D.n → D.Eqv s t → f s = f t
section
variable {D : DF} {k m m0 C : Nat} {f f0 : Nat → Nat}
theorem SplS.start (h : HopS D k m f) : SplS D k m f 0 m f :=
  ⟨h.lt, Nat.le_refl _, fun _ _ _ _ e => e, fun c hc => by omega, fun _ _ => .inl rfl, h.co⟩
theorem SplS.next (hD : D.Pre) (h0 : HopS D k m0 f0) (h : SplS D k m0 f0 C m f) (hC : C < D.W) {m' : Nat} {f' : Nat → Nat} (hm : m ≤ m') (hlt : ∀ s, s < D.n → f' s < m') (hk : ∀ s, s < D.n → f' s = f s ∨ m ≤ f' s)
    (he : ∀ s, s < D.n → ∀ t, t < D.n → (f' s = f' t ↔ f s = f t ∧ (f0 (D.nx s C) = k ↔ f0 (D.nx t C) = k))) : SplS D k m0 f0 (C + 1) m' f' := by
  have ok := hD.toOk
  refine ⟨hlt, Nat.le_trans h.mle hm, fun s hs t ht e => h.re s hs t ht ((he s hs t ht).1 e).1, fun c hc s hs t ht e => ?_, fun s hs => ?_, fun s hs t ht e => ?_⟩
  · obtain ⟨e1, e2⟩ := (he s hs t ht).1 e
    by_cases h2 : c < C
    · exact h.st c h2 s hs t ht e1
    · have : c = C := by omega
      subst this
      exact e2
  · have := h.mle
    rcases hk s hs with h1 | h1
    · rcases h.kp s hs with h2 | h2
      · exact .inl (h1.trans h2)
      · exact .inr (by omega)
    · exact .inr (by omega)
  · obtain ⟨b, hb, rfl⟩ := hD.cols C hC
    have e2 := h0.co _ (ok.nx s hs _ (ok.bc b hb)) _ (ok.nx t ht _ (ok.bc b hb)) (e.step hb)
    exact (he s hs t ht).2 ⟨h.co s hs t ht e, by rw [e2]⟩
theorem HopS.next (hD : D.Ok) (h0 : HopS D k m0 f0) (hk : k < m0) (h : SplS D k m0 f0 D.W m f) : HopS D (k + 1) m f := by
  refine ⟨h.lt, h.co, fun s hs t ht e => h0.ou s hs t ht (h.re s hs t ht e), fun s hs t ht e c hc => ?_⟩
  have hx := hD.nx s hs c hc
  have hy := hD.nx t ht c hc
  have e1 := h0.hop s hs t ht (h.re s hs t ht e) c hc
  have e2 := h.st c hc s hs t ht e
  generalize D.nx s c = x at *
  generalize D.nx t c = y at *
  rcases h.kp x hx with p1 | p1
  · rcases h.kp y hy with p2 | p2
    · rw [p1, p2]
      omega
    · exact .inr (.inr (by omega))
  · exact .inr (.inl (by omega))
theorem HopS.same (hD : D.Ok) (hs : ∀ s, s < D.n → ∀ t, t < D.n → f s = f t → D.ou s = D.ou t) (hn : ∀ s, s < D.n → ∀ t, t < D.n → f s = f t → ∀ c, c < D.W → f (D.nx s c) = f (D.nx t c)) : ∀ {u : List Nat} {s t : Nat}, s < D.n → t < D.n → f s = f t → Txt u → D.lab s u = D.lab t u
  | [], s, t, h1, h2, e, _ => hs s h1 t h2 e
  | b :: u, s, t, h1, h2, e, hu => by
    have hb := hu.tail.1
    have := HopS.same hD hs hn (hD.step h1 hb) (hD.step h2 hb) (hn s h1 t h2 e _ (hD.bc b hb)) hu.tail.2
    exact this
theorem HopS.done (hD : D.Ok) (h : HopS D m m f) : ∀ s, s < D.n → ∀ t, t < D.n → (f s = f t ↔ D.Eqv s t) := fun s hs t ht =>
  ⟨fun e u hu => HopS.same hD h.ou (fun s hs t ht e c hc => by
    have := h.hop s hs t ht e c hc
    have := h.lt _ (hD.nx s hs c hc)
    have := h.lt _ (hD.nx t ht c hc)
    omega) hs ht e hu, h.co s hs t ht⟩
theorem HopS.alone (h : HopS D k m f) (hi : ∀ s, s < D.n → ∀ t, t < D.n → f s = f t → s = t) : ∀ s, s < D.n → ∀ t, t < D.n → (f s = f t ↔ D.Eqv s t) := fun s hs t ht =>
  ⟨fun e => by rw [hi s hs t ht e]; exact DF.Eqv.refl _ _, h.co s hs t ht⟩
end
def Many (D : DF) (N : Nat) : Prop := ∃ g : Nat → Nat, (∀ i, i < N → g i < D.n) ∧ ∀ i, i < N → ∀ j, j < N → D.Eqv (g i) (g j) → i = j
theorem HopS.many {D : DF} {k m : Nat} {f : Nat → Nat} (h : HopS D k m f) (hne : ∀ r, r < m → ∃ s, s < D.n ∧ f s = r) : Many D m := by
  have hc : ∀ r, ∃ s, r < m → s < D.n ∧ f s = r := fun r => by
    by_cases hr : r < m
    · obtain ⟨s, hs⟩ := hne r hr
      exact ⟨s, fun _ => hs⟩
    · exact ⟨0, fun h => absurd h hr⟩
  refine ⟨fun r => (hc r).choose, fun i hi => ((hc i).choose_spec hi).1, fun i hi j hj e => ?_⟩
  have h1 := (hc i).choose_spec hi
  have h2 := (hc j).choose_spec hj
  have := h.co _ h1.1 _ h2.1 e
  rw [h1.2, h2.2] at this
  exact this
theorem pigeon : ∀ (M N : Nat) (g : Nat → Nat), (∀ i, i < N → g i < M) → (∀ i, i < N → ∀ j, j < N → g i = g j → i = j) → N ≤ M
  | _, 0, _, _, _ => Nat.zero_le _
  | 0, N + 1, g, h, _ => absurd (h 0 (by omega)) (by omega)
  | M + 1, N + 1, g, h, hi => by
    have := pigeon M N (fun i => if g i = M then g N else g i) (fun i hi' => by
      have h1 := h i (by omega)
      have h2 := h N (by omega)
      by_cases e : g i = M
      · rw [if_pos e]
        have : ¬ g N = M := fun e2 => by have := hi i (by omega) N (by omega) (by omega); omega
        omega
      · rw [if_neg e]; omega) (fun i hi' j hj e => by
      have hij := hi i (by omega) j (by omega)
      have hiN := hi i (by omega) N (by omega)
      have hjN := hi j (by omega) N (by omega)
      by_cases e1 : g i = M
      · by_cases e2 : g j = M
        · exact hij (by omega)
        · rw [if_pos e1, if_neg e2] at e; omega
      · by_cases e2 : g j = M
        · rw [if_neg e1, if_pos e2] at e; omega
        · rw [if_neg e1, if_neg e2] at e; exact hij e)
    omega
theorem Many.le {D E : DF} {N : Nat} (hD : Many D N) (hr : ∀ s, s < D.n → ∃ t, Txt t ∧ D.run 0 t = s) (hE : E.Ok) (hl : ∀ t, Txt t → D.lab 0 t = E.lab 0 t) : N ≤ E.n := by
  obtain ⟨g, h1, h2⟩ := hD
  have hc : ∀ i, ∃ s', i < N → s' < E.n ∧ ∀ u, Txt u → E.lab s' u = D.lab (g i) u := fun i => by
    by_cases hi : i < N
    · obtain ⟨t, k1, k2⟩ := hr (g i) (h1 i hi)
      refine ⟨E.run 0 t, fun _ => ⟨hE.run hE.n0 k1, fun u hu => ?_⟩⟩
      have := hl (t ++ u) (k1.app hu)
      unfold DF.lab at this ⊢
      rw [DF.run_app, DF.run_app, k2] at this
      exact this.symm
    · exact ⟨0, fun h => absurd h hi⟩
  refine pigeon E.n N (fun i => (hc i).choose) (fun i hi => ((hc i).choose_spec hi).1) (fun i hi j hj e => h2 i hi j hj (fun u hu => ?_))
  have e' : (hc i).choose = (hc j).choose := e
  rw [← ((hc i).choose_spec hi).2 u hu, ← ((hc j).choose_spec hj).2 u hu, e']
end Go.Proofs.YtdgoilkgplnhfabGreat
