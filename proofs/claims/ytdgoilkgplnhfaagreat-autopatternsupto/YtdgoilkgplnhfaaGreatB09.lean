/-
  An automaton as it lies in memory; its width, a step of it. Condition: lists no longer than a process can hold.
-/
import Derived.Test.YtdgoilkgplnhfaaGreatB06
import Derived.Test.YtdgoilkgplnhfaaGreatB08
import Derived.Laws.BytesArg
import Derived.Deep.DeepCutAuto
import Derived.Deep.LoopGhost
namespace Go.Proofs.YtdgoilkgplnhfaaGreat
open Go.RowKit Go.Lib

/-- Numbers as they lie in memory. -/
def NAt (w : World) (ao : Option Addr) (L : List Nat) : Prop := L = [] ∨ ∃ b off, ao = some ⟨b, off, none⟩ ∧ b < w.heap.size ∧ ∀ i (h : i < L.length), w.cell? ⟨b, off + i, none⟩ = some (.int .i64 (L[i] : Int))
theorem NAt.below {w w' : World} {ao : Option Addr} {L : List Nat} (h : NAt w ao L) (hb : Below w.heap.size w w') : NAt w' ao L := by
  rcases h with h | ⟨b, off, h1, h2, h3⟩
  · exact .inl h
  · exact .inr ⟨b, off, h1, Nat.lt_of_lt_of_le h2 hb.size, fun i hi => (hb.cell (p := ⟨b, off + i, none⟩) h2).trans (h3 i hi)⟩
theorem NAt.get {w : World} {ao : Option Addr} {L : List Nat} (h : NAt w ao L) {i : Nat} (hi : i < L.length) : ∃ b off, ao = some ⟨b, off, none⟩ ∧ b < w.heap.size ∧ w.cell? ⟨b, off + i, none⟩ = some (.int .i64 (L[i] : Int)) := by
  rcases h with h | ⟨b, off, h1, h2, h3⟩
  · rw [h] at hi; cases hi
  · exact ⟨b, off, h1, h2, h3 i hi⟩
theorem OwnN.at {w : World} {base : Nat} {v : Value} {L : List Nat} (h : OwnN w base v L) : ∃ ao cap, v = .slice ao L.length cap ∧ NAt w ao L := by
  have hh : w.ownsRow base 3 1 v L.length (nCells L) := h
  rcases hh.2 with ⟨rfl, hn⟩ | ⟨g, cap, cur, rfl, hb, hg, r⟩
  · exact ⟨none, 0, by rw [hn], .inl (List.eq_nil_of_length_eq_zero hn)⟩
  · refine ⟨_, cap, rfl, .inr ⟨g, 0, rfl, lt_of_block hg, fun i hi => ?_⟩⟩
    have := h.cell hi
    simpa using this
/-- An automaton's value. -/
def auV (bs : By) (na : Option Addr) (nl nc : Nat) (oa : Option Addr) (ol oc : Nat) : Value := .agg #[.string ⟨bs.toArray⟩, .slice na nl nc, .slice oa ol oc]
set_option maxRecDepth 100000 in
theorem width_any (bs : By) (na oa : Option Addr) (nl nc ol oc : Nat) (w : World) (hn : nl ≤ 140737488351232) (ho : 0 < ol) :
    Calls Tryz.prog 94 #[auV bs na nl nc oa ol oc] w fun e w' => e = .returned (.int .i64 ((nl / ol : Nat) : Int)) ∧ Below w.heap.size w w' := by
  have hq : (nl : Int).tdiv (ol : Int) = ((nl / ol : Nat) : Int) := by rw [Int.tdiv_eq_ediv_of_nonneg (by omega)]; rfl
  have hle : nl / ol ≤ nl := Nat.div_le_self _ _
  generalize nl / ol = m at *
  have hw : IntKind.i64.wrap (m : Int) = (m : Int) := by simp [IntKind.wrap, IntKind.bits, IntKind.signed]; omega
  have h0 : ¬ (ol : Int) = 0 := by omega
  have X := hide (al (Below.refl w.heap.size w) (.cells #[.string ⟨bs.toArray⟩, .slice na nl nc, .slice oa ol oc] 24))
  unfold auV
  go_enter Tryz.func94, Tryz.ntmps94
  go_wp2
  go_ret
  exact ⟨rfl, X.out⟩
theorem w64_n (n : Nat) (h : n ≤ 9223372036854775807) : IntKind.i64.wrap (n : Int) = (n : Int) := by simp [IntKind.wrap, IntKind.bits, IntKind.signed]; omega
set_option maxRecDepth 100000 in
set_option maxHeartbeats 2000000 in
theorem step_any (bs : By) (na oa : Option Addr) (nc oc ol s b W c : Nat) (NX : List Nat) (w : World) (hn : NX.length ≤ 140737488351232) (ho : 0 < ol) (hW : NX.length / ol = W) (hb : b < bs.length) (hc : (bs[b]).toNat = c) (hi : s * W + c < NX.length) (hat : NAt w na NX) :
    Calls Tryz.prog 58 #[auV bs na NX.length nc oa ol oc, .int .i64 (s : Nat), .int .i64 (b : Nat)] w fun e w' => e = .returned (.int .i64 ((NX[s * W + c] : Nat) : Int)) ∧ Below w.heap.size w w' := by
  obtain ⟨nb, off, rfl, hnb, cx⟩ := hat.get hi
  generalize NX[s * W + c] = r at *
  have hwd := fun W' => width_any bs (some ⟨nb, off, none⟩) oa NX.length nc ol oc W' hn ho
  rw [hW] at hwd
  have hsW : s * W ≤ 140737488351232 := by omega
  have hbt : c < 256 := by rw [← hc]; exact (bs[b]).toNat_lt
  obtain ⟨y, hy⟩ : ∃ y, bs[b] = y := ⟨_, rfl⟩
  have hg : ∀ hk, (⟨bs.toArray⟩ : ByteArray)[b]'hk = y := fun _ => hy
  have f2 : IntKind.i64.wrap ((y.toNat : Nat) : Int) = (c : Int) := by rw [← hy, hc]; exact w64_n _ (by omega)
  clear hc hy
  have f1 : IntKind.i64.wrap ((s : Int) * (W : Int)) = ((s * W : Nat) : Int) := by rw [show (s : Int) * (W : Int) = ((s * W : Nat) : Int) by simp]; exact w64_n _ (by omega)
  generalize hm : s * W = m at *
  have f3 : IntKind.i64.wrap ((m : Int) + (c : Int)) = ((m + c : Nat) : Int) := by rw [show (m : Int) + (c : Int) = ((m + c : Nat) : Int) by simp]; exact w64_n _ (by omega)
  have hlb : (b : Int) < (bs.length : Int) := by omega
  have hln : (m : Int) + (c : Int) < (NX.length : Int) := by omega
  have hlz : (0 : Int) ≤ (m : Int) + (c : Int) := by omega
  have hlt : ((m : Int) + (c : Int)).toNat = m + c := by omega
  have X1 := hide (al (Below.refl w.heap.size w) (.cells #[.string ⟨bs.toArray⟩, .slice (some ⟨nb, off, none⟩) NX.length nc, .slice oa ol oc] 24))
  have B1 := heap_alloc_new w (.cells #[.string ⟨bs.toArray⟩, .slice (some ⟨nb, off, none⟩) NX.length nc, .slice oa ol oc] 24)
  have c0 : (w.alloc (.cells #[.string ⟨bs.toArray⟩, .slice (some ⟨nb, off, none⟩) NX.length nc, .slice oa ol oc] 24)).cell? ⟨w.heap.size, 0, none⟩ = some (.string ⟨bs.toArray⟩) := by rw [cell_of_row _ _ _ _ _ _ B1]; rfl
  have c1 : (w.alloc (.cells #[.string ⟨bs.toArray⟩, .slice (some ⟨nb, off, none⟩) NX.length nc, .slice oa ol oc] 24)).cell? ⟨w.heap.size, 1, none⟩ = some (.slice (some ⟨nb, off, none⟩) NX.length nc) := by rw [cell_of_row _ _ _ _ _ _ B1]; rfl
  have c2 : (w.alloc (.cells #[.string ⟨bs.toArray⟩, .slice (some ⟨nb, off, none⟩) NX.length nc, .slice oa ol oc] 24)).cell? ⟨w.heap.size, 2, none⟩ = some (.slice oa ol oc) := by rw [cell_of_row _ _ _ _ _ _ B1]; rfl
  have c3 := (X1.out.cell (p := ⟨nb, off + (m + c), none⟩) hnb).trans cx
  have hl1 := lt_of_block B1
  have hl2 : nb < (w.alloc (.cells #[.string ⟨bs.toArray⟩, .slice (some ⟨nb, off, none⟩) NX.length nc, .slice oa ol oc] 24)).heap.size := Nat.lt_of_lt_of_le hnb X1.out.size
  clear cx B1
  unfold auV
  go_enter Tryz.func58, Tryz.ntmps58
  go_wp2
  generalize w.alloc (.cells #[.string ⟨bs.toArray⟩, .slice (some ⟨nb, off, none⟩) NX.length nc, .slice oa ol oc] 24) = w1 at *
  have HDr : Hid (Below w1.heap.size w1 w1.drew) := (Below.refl _ _).drew
  refine wp_region_quiet (C := fun w' => Below w1.heap.size w1 w') (by kernel_rfl) (by kernel_rfl) HDr.out ?_
  refine QW.out (l := _ :: _) ?_
  iterate 4 (refine QW.take (by rfl) ?_; apply Exists.intro; refine ⟨fun w' hw' => ?_, ?_⟩; (· (have g0 := (hw'.cell (p := ⟨w.heap.size, 0, none⟩) hl1).trans c0; have g1 := (hw'.cell (p := ⟨w.heap.size, 1, none⟩) hl1).trans c1; have g2 := (hw'.cell (p := ⟨w.heap.size, 2, none⟩) hl1).trans c2; have g3 := (hw'.cell (p := ⟨nb, off + (m + c), none⟩) hl2).trans c3; go_simp; first | done | (first | done | rfl))); try simp only [Act.put, List.setIfInBounds_toArray, List.set_cons_zero, List.set_cons_succ])
  iterate 1 (refine QW.take (by rfl) ?_; apply Exists.intro; refine ⟨fun w' hw' => ?_, ?_⟩; (· (have g0 := (hw'.cell (p := ⟨w.heap.size, 0, none⟩) hl1).trans c0; have g1 := (hw'.cell (p := ⟨w.heap.size, 1, none⟩) hl1).trans c1; have g2 := (hw'.cell (p := ⟨w.heap.size, 2, none⟩) hl1).trans c2; have g3 := (hw'.cell (p := ⟨nb, off + (m + c), none⟩) hl2).trans c3; go_simp; (refine (hwd _).mono ?_; rintro e w2 ⟨rfl, x2⟩; exact ⟨rfl, hw'.trans (x2.mono hw'.size)⟩))); try simp only [Act.put, List.setIfInBounds_toArray, List.set_cons_zero, List.set_cons_succ])
  iterate 10 (refine QW.take (by rfl) ?_; apply Exists.intro; refine ⟨fun w' hw' => ?_, ?_⟩; (· (have g0 := (hw'.cell (p := ⟨w.heap.size, 0, none⟩) hl1).trans c0; have g1 := (hw'.cell (p := ⟨w.heap.size, 1, none⟩) hl1).trans c1; have g2 := (hw'.cell (p := ⟨w.heap.size, 2, none⟩) hl1).trans c2; have g3 := (hw'.cell (p := ⟨nb, off + (m + c), none⟩) hl2).trans c3; go_simp; first | done | (first | done | rfl))); try simp only [Act.put, List.setIfInBounds_toArray, List.set_cons_zero, List.set_cons_succ])
  refine QW.nil ?_
  intro w7 x7
  have X7 := hide (bt X1.out x7 (Nat.le_refl _))
  clear x7 c0 c1 c2 c3
  go_wp2
  go_ret
  exact ⟨rfl, X7.out⟩
end Go.Proofs.YtdgoilkgplnhfaaGreat
/-
  Several rows of numbers, each in a block of its own. Of the program its types alone: no condition.
-/
namespace Go.Proofs.YtdgoilkgplnhfaaGreat
open Go.RowKit Go.Lib

abbrev RN := Value × List Nat
/-- Rows of numbers, apart. -/
structure Rws (w : World) (base : Nat) (R : List RN) : Prop where
  own : ∀ j (h : j < R.length), OwnN w base (R[j]).1 (R[j]).2
  ap : ∀ j (h : j < R.length) k (h' : k < R.length), j ≠ k → ∀ b, (R[j]).1.ownBlock = some b → ¬ (R[k]).1.ownBlock = some b
section
variable {w w' : World} {base : Nat} {R : List RN}
theorem Rws.below (h : Rws w base R) (x : Below w.heap.size w w') : Rws w' base R := ⟨fun j hj => own_below (h.own j hj) x, h.ap⟩
theorem Rws.kept {F : Nat → Prop} (h : Rws w base R) (x : Kept F w w') (hF : ∀ j (h : j < R.length) b, (R[j]).1.ownBlock = some b → ¬ F b) : Rws w' base R := ⟨fun j hj => own_kept (h.own j hj) x (hF j hj), h.ap⟩
theorem Rws.upd {F : Nat → Prop} (h : Rws w base R) {i : Nat} (hi : i < R.length) {v' : Value} {L' : List Nat} (h1 : OwnN w' base v' L') (hk : Kept F w w') (hF : ∀ b, F b → (R[i]).1.ownBlock = some b) (hv : ∀ b, v'.ownBlock = some b → (R[i]).1.ownBlock = some b ∨ w.heap.size ≤ b) : Rws w' base (R.set i (v', L')) := by
  refine ⟨fun j hj => ?_, fun j hj k hk' hne b hb hb2 => ?_⟩
  · rw [List.length_set] at hj
    by_cases hji : i = j
    · subst hji
      rw [List.getElem_set_self]
      exact h1
    · rw [List.getElem_set_ne hji]
      exact own_kept (h.own j hj) hk (fun b hb hf => h.ap j hj i hi (fun e => hji e.symm) b hb (hF b hf))
  · rw [List.length_set] at hj hk'
    have hlt : ∀ m (hm : m < R.length) b, (R[m]).1.ownBlock = some b → b < w.heap.size := fun m hm b hb => (World.ownsRow.lt (show w.ownsRow base 3 1 (R[m]).1 _ (nCells _) from h.own m hm) b hb).2
    by_cases hji : i = j
    · subst hji
      rw [List.getElem_set_self] at hb
      rw [List.getElem_set_ne hne] at hb2
      rcases hv b hb with h3 | h3
      · exact h.ap i hi k hk' hne b h3 hb2
      · have := hlt k hk' b hb2; omega
    · rw [List.getElem_set_ne hji] at hb
      by_cases hki : i = k
      · subst hki
        rw [List.getElem_set_self] at hb2
        rcases hv b hb2 with h3 | h3
        · exact h.ap j hj i hi hne b hb h3
        · have := hlt j hj b hb; omega
      · rw [List.getElem_set_ne hki] at hb2
        exact h.ap j hj k hk' hne b hb hb2
/-- An append to one of them. -/
theorem Rws.app (h : Rws w base R) {i : Nat} (hi : i < R.length) {v' : Value} {x : Nat} {L : List Nat} (h1 : w'.ownsRow base 3 1 v' (L.length + 1) (nCells L ++ [.int .i64 (x : Int)])) (h2 : AppAt w w' (R[i]).1 v') : Rws w' base (R.set i (v', L ++ [x])) := by
  have o : OwnN w' base v' (L ++ [x]) := by
    unfold OwnN
    rw [nCells_snoc, List.length_append, List.length_singleton]
    exact h1
  rcases h2 with ⟨q, a, b, c⟩ | ⟨a, b⟩
  · exact h.upd hi o (kept_of_grown c) (fun k hk => a.trans hk) (fun k hk => .inl (by rw [a, ← b]; exact hk))
  · exact h.upd (F := fun _ => False) hi o (Kept.of_below (below_of_grown a)) (fun k hk => hk.elim) (fun k hk => .inr (b k hk))
/-- A store into one of them. -/
theorem Rws.store (h : Rws w base R) {i : Nat} (hi : i < R.length) {g n cap : Nat} {L : List Nat} (hR : R[i] = (.slice (some ⟨g, 0, none⟩) n cap, L)) (k x : Nat) : Rws (w.setCell ⟨g, k, none⟩ (.int .i64 (x : Int))) base (R.set i (.slice (some ⟨g, 0, none⟩) n cap, L.set k x)) := by
  have ho := h.own i hi
  rw [hR] at ho
  obtain ⟨o1, k1⟩ := ho.store k x
  exact h.upd hi o1 k1 (fun b hb => by rw [hR, hb]; rfl) (fun b hb => .inl (by rw [hR]; exact hb))
/-- One row more, made anew. -/
theorem Rws.cons (h : Rws w base R) (x : Below w.heap.size w w') {v : Value} {L : List Nat} (ho : OwnN w' base v L) (hb : ∀ b, v.ownBlock = some b → w.heap.size ≤ b) : Rws w' base (R ++ [(v, L)]) := by
  have h' := h.below x
  have hlt : ∀ m (hm : m < R.length) b, (R[m]).1.ownBlock = some b → b < w.heap.size := fun m hm b hb => (World.ownsRow.lt (show w.ownsRow base 3 1 (R[m]).1 _ (nCells _) from h.own m hm) b hb).2
  refine ⟨fun j hj => ?_, fun j hj k hk hne b h1 h2 => ?_⟩
  · by_cases hjl : j < R.length
    · rw [List.getElem_append_left hjl]; exact h'.own j hjl
    · have : j = R.length := by rw [List.length_append, List.length_singleton] at hj; omega
      subst this
      rw [List.getElem_append_right (Nat.le_refl _)]
      simpa using ho
  · by_cases hjl : j < R.length
    · rw [List.getElem_append_left hjl] at h1
      by_cases hkl : k < R.length
      · rw [List.getElem_append_left hkl] at h2; exact h.ap j hjl k hkl hne b h1 h2
      · have : k = R.length := by rw [List.length_append, List.length_singleton] at hk; omega
        subst this
        rw [List.getElem_append_right (Nat.le_refl _)] at h2
        have := hlt j hjl b h1
        have := hb b (by simpa using h2)
        omega
    · have : j = R.length := by rw [List.length_append, List.length_singleton] at hj; omega
      subst this
      rw [List.getElem_append_right (Nat.le_refl _)] at h1
      have hkl : k < R.length := by rw [List.length_append, List.length_singleton] at hk; omega
      rw [List.getElem_append_left hkl] at h2
      have := hlt k hkl b h2
      have := hb b (by simpa using h1)
      omega
theorem Rws.nil (w : World) (base : Nat) : Rws w base [] := ⟨fun j hj => (by cases hj), fun j hj => (by cases hj)⟩
end
/-- Flags in a row of their own. -/
def OwnB (w : World) (base : Nat) (v : Value) (L : List Bool) : Prop := w.ownsRow base 4 1 v L.length (L.map Value.bool)
theorem made_falses (n : Nat) : (madeCells (Value.bool false).cells (n * 1)).toList = (List.replicate n false).map Value.bool := by
  simp only [madeCells, Value.cells, List.map_replicate, Nat.mul_one]
  rw [List.eq_replicate_iff]
  refine ⟨by simp, fun b hb => ?_⟩
  simp only [Array.toList_map, List.mem_map] at hb
  obtain ⟨x, _, rfl⟩ := hb
  simp [Nat.mod_one]
theorem Tryz.info4n : (Tryz.prog.info? 4).map (fun i => (i.zero, i.size, i.bytes)) = some (some (.bool false), 1, 1) := by kernel_rfl
theorem OwnB.len {w : World} {base g cap n : Nat} {L : List Bool} (h : OwnB w base (.slice (some ⟨g, 0, none⟩) n cap) L) : n = L.length := by
  have hh : w.ownsRow base 4 1 (.slice (some ⟨g, 0, none⟩) n cap) L.length (L.map Value.bool) := h
  rcases hh.2 with ⟨e, e2⟩ | ⟨g', c', cur, e, _⟩
  · cases e
  · injection e with _ e2 _
theorem OwnB.cell {w : World} {base g cap n : Nat} {L : List Bool} (h : OwnB w base (.slice (some ⟨g, 0, none⟩) n cap) L) {i : Nat} (hi : i < L.length) : w.cell? ⟨g, i, none⟩ = some (.bool L[i]) ∧ w.frozen? ⟨g, i, none⟩ = false := by
  obtain rfl := h.len
  have hh : w.ownsRow base 4 1 (.slice (some ⟨g, 0, none⟩) L.length cap) L.length (L.map Value.bool) := h
  exact ⟨by rw [hh.cellAt i (by omega)]; simp [hi], hh.frozenAt _⟩
theorem OwnB.store {w : World} {base g cap n : Nat} {L : List Bool} (h : OwnB w base (.slice (some ⟨g, 0, none⟩) n cap) L) (i : Nat) (x : Bool) : OwnB (w.setCell ⟨g, i, none⟩ (.bool x)) base (.slice (some ⟨g, 0, none⟩) n cap) (L.set i x) ∧ Kept (fun k => k = g) w (w.setCell ⟨g, i, none⟩ (.bool x)) := by
  obtain rfl := h.len
  have hh : w.ownsRow base 4 1 (.slice (some ⟨g, 0, none⟩) L.length cap) L.length (L.map Value.bool) := h
  obtain ⟨h1, h2⟩ := hh.stored i (.bool x)
  refine ⟨?_, (kept_of_grown h2).mono (fun k hk => by injection hk with hk; exact hk.symm)⟩
  unfold OwnB
  rw [List.length_set, List.map_set]
  exact h1
theorem OwnN.slot {w : World} {base g cap n : Nat} {L : List Nat} (h : OwnN w base (.slice (some ⟨g, 0, none⟩) n cap) L) {i : Nat} (hi : i < L.length) : w.cell? ⟨g, i, none⟩ = some (.int .i64 (L[i] : Int)) ∧ w.frozen? ⟨g, i, none⟩ = false := by
  refine ⟨h.cell hi, ?_⟩
  have hh : w.ownsRow base 3 1 (.slice (some ⟨g, 0, none⟩) n cap) L.length (nCells L) := h
  have hn : n = L.length := by
    rcases hh.2 with ⟨e, e2⟩ | ⟨g', c', cur, e, _⟩
    · cases e
    · injection e with _ e2 _
  subst hn
  exact hh.frozenAt _
end Go.Proofs.YtdgoilkgplnhfaaGreat
/-
  States in parts as they lie in memory: three rows of numbers, one of rooms. Of the program its types alone: no condition.
-/
namespace Go.Proofs.YtdgoilkgplnhfaaGreat
open Go.RowKit Go.Lib

def rmC (r : Rm) : List Value := [.int .i64 (r.a : Int), .int .i64 (r.m : Int), .int .i64 (r.e : Int)]
def rCells : List Rm → List Value
  | [] => []
  | r :: R => rmC r ++ rCells R
theorem rCells_length : ∀ R : List Rm, (rCells R).length = R.length * 3
  | [] => rfl
  | r :: R => by rw [rCells, List.length_append, rCells_length R, List.length_cons]; simp [rmC]; omega
theorem rCells_snoc (r : Rm) : ∀ R : List Rm, rCells (R ++ [r]) = rCells R ++ rmC r
  | [] => by simp [rCells]
  | x :: R => by rw [List.cons_append, rCells, rCells, rCells_snoc r R, List.append_assoc]
theorem rCells_get : ∀ (R : List Rm) (k j : Nat), k < R.length → j < 3 → (rCells R)[k * 3 + j]? = (rmC (gR R k))[j]?
  | [], k, j, h, _ => by cases h
  | r :: R, 0, j, _, hj => by
    rw [rCells, List.getElem?_append_left (by simp [rmC]; omega)]
    simp [gR]
  | r :: R, k + 1, j, h, hj => by
    rw [rCells, List.getElem?_append_right (by simp [rmC]; omega)]
    have e : (k + 1) * 3 + j - (rmC r).length = k * 3 + j := by simp [rmC]; omega
    rw [e, rCells_get R k j (by simpa using h) hj]
    simp [gR]
theorem rCells_set : ∀ (R : List Rm) (k : Nat) (r : Rm), k < R.length → rCells (R.set k r) = (rCells R).take (k * 3) ++ rmC r ++ (rCells R).drop (k * 3 + 3)
  | [], k, r, h => by cases h
  | x :: R, 0, r, _ => by
    simp [rCells, rmC]
  | x :: R, k + 1, r, h => by
    have e1 : (k + 1) * 3 = (rmC x).length + k * 3 := by simp [rmC]; omega
    rw [List.set_cons_succ, rCells, rCells, rCells_set R k r (by simpa using h), e1, List.take_append, List.drop_append]
    have : (rmC x).take ((rmC x).length + k * 3) = rmC x := List.take_of_length_le (by omega)
    rw [this, List.drop_of_length_le (show (rmC x).length ≤ (rmC x).length + k * 3 + 3 by omega), show (rmC x).length + k * 3 + 3 - (rmC x).length = k * 3 + 3 by omega, Nat.add_sub_cancel_left]
    simp [List.append_assoc]
theorem rCells_mark (R : List Rm) (k : Nat) (h : k < R.length) (m : Nat) : (rCells R).set (k * 3 + 1) (.int .i64 (m : Int)) = rCells (R.set k ⟨(gR R k).a, m, (gR R k).e⟩) := by
  refine List.ext_getElem? (fun i => ?_)
  rw [List.getElem?_set]
  by_cases hi : i < R.length * 3
  · have hd := Nat.div_add_mod i 3
    obtain ⟨q, j, hj, rfl⟩ : ∃ q j, j < 3 ∧ i = q * 3 + j := ⟨i / 3, i % 3, by omega, by omega⟩
    rw [rCells_get (R.set k _) q j (by rw [List.length_set]; omega) hj, gR_set R h, rCells_length]
    by_cases e : q = k
    · subst e
      rw [if_pos rfl]
      match j, hj with
      | 0, _ => rw [if_neg (by omega), rCells_get _ _ _ h (by omega)]; simp [rmC]
      | 1, _ => rw [if_pos rfl, if_pos (by omega)]; simp [rmC]
      | 2, _ => rw [if_neg (by omega), rCells_get _ _ _ h (by omega)]; simp [rmC]
    · rw [if_neg (by omega), if_neg e, rCells_get _ _ _ (by omega) hj]
  · rw [if_neg (by omega), List.getElem?_eq_none (by rw [rCells_length]; omega), List.getElem?_eq_none (by rw [rCells_length, List.length_set]; omega)]
/-- Rooms in a row of their own. -/
def OwnR (w : World) (base : Nat) (v : Value) (R : List Rm) : Prop := w.ownsRow base 164 3 v R.length (rCells R)
theorem OwnR.shape {w : World} {base : Nat} {v : Value} {R : List Rm} (h : OwnR w base v R) : ∃ ao cap, v = .slice ao R.length cap := by
  obtain ⟨a, k, e, _⟩ := own_shape (show w.ownsRow base 164 3 v R.length (rCells R) from h)
  exact ⟨a, k, e⟩
theorem OwnR.at {w : World} {base : Nat} {v : Value} {R : List Rm} (h : OwnR w base v R) (h0 : 0 < R.length) : ∃ g cap, v = .slice (some ⟨g, 0, none⟩) R.length cap := by
  have hh : w.ownsRow base 164 3 v R.length (rCells R) := h
  rcases hh.2 with ⟨rfl, hn⟩ | ⟨g, cap, cur, rfl, _⟩
  · omega
  · exact ⟨g, cap, rfl⟩
section
variable {w : World} {base g cap : Nat} {R : List Rm}
theorem OwnR.cell (h : OwnR w base (.slice (some ⟨g, 0, none⟩) R.length cap) R) {k j : Nat} (hk : k < R.length) (hj : j < 3) : w.cell? ⟨g, k * 3 + j, none⟩ = (rmC (gR R k))[j]? := by
  have hh : w.ownsRow base 164 3 (.slice (some ⟨g, 0, none⟩) R.length cap) R.length (rCells R) := h
  rw [hh.cellAt _ (by omega), rCells_get R k j hk hj]
theorem OwnR.mark (h : OwnR w base (.slice (some ⟨g, 0, none⟩) R.length cap) R) {k : Nat} (hk : k < R.length) (m : Nat) :
    OwnR (w.setCell ⟨g, k * 3 + 1, none⟩ (.int .i64 (m : Int))) base (.slice (some ⟨g, 0, none⟩) R.length cap) (R.set k ⟨(gR R k).a, m, (gR R k).e⟩) ∧ Kept (fun b => b = g) w (w.setCell ⟨g, k * 3 + 1, none⟩ (.int .i64 (m : Int))) := by
  have hh : w.ownsRow base 164 3 (.slice (some ⟨g, 0, none⟩) R.length cap) R.length (rCells R) := h
  obtain ⟨h1, h2⟩ := hh.stored (k * 3 + 1) (.int .i64 (m : Int))
  refine ⟨?_, (kept_of_grown h2).mono (fun b hb => by injection hb with hb; exact hb.symm)⟩
  unfold OwnR
  rw [List.length_set, ← rCells_mark R k hk]
  exact h1
end
/-- The parts' own block, their rows, their rooms. -/
structure PrM (w : World) (base pb : Nat) (lv pv ov rv : Value) (L P O : List Nat) (R : List Rm) : Prop where
  blk : w.heap[pb]? = some (.cells #[lv, pv, ov, rv] 161 (0, 0))
  ge : base ≤ pb
  rws : Rws w base [(lv, L), (pv, P), (ov, O)]
  own : OwnR w base rv R
/-- The blocks of the rows. -/
def inP (lv pv ov rv : Value) (b : Nat) : Prop := lv.ownBlock = some b ∨ pv.ownBlock = some b ∨ ov.ownBlock = some b ∨ rv.ownBlock = some b
section
variable {w w' : World} {base pb : Nat} {lv pv ov rv : Value} {L P O : List Nat} {R : List Rm}
theorem PrM.kept {F : Nat → Prop} (h : PrM w base pb lv pv ov rv L P O R) (x : Kept F w w') (h1 : ¬ F pb) (h2 : ∀ b, inP lv pv ov rv b → ¬ F b) : PrM w' base pb lv pv ov rv L P O R :=
  ⟨(x.block pb (lt_of_block h.blk) h1).trans h.blk, h.ge, h.rws.kept x (fun j hj b hb => h2 b (by
    match j, hj with
    | 0, _ => exact .inl hb
    | 1, _ => exact .inr (.inl hb)
    | 2, _ => exact .inr (.inr (.inl hb)))), own_kept h.own x (fun b hb => h2 b (.inr (.inr (.inr hb))))⟩
theorem PrM.below (h : PrM w base pb lv pv ov rv L P O R) (x : Below w.heap.size w w') : PrM w' base pb lv pv ov rv L P O R :=
  ⟨(x.block pb (lt_of_block h.blk)).trans h.blk, h.ge, h.rws.below x, own_below h.own x⟩
theorem PrM.notpb (h : PrM w base pb lv pv ov rv L P O R) : ∀ b, inP lv pv ov rv b → ¬ b = pb := fun b hb e => by
  subst e
  have hx : ∀ (j : Nat) (hj : j < 3), ([(lv, L), (pv, P), (ov, O)] : List RN)[j].1.ownBlock = some b → False := fun j hj hf => by
    obtain ⟨cs, h2⟩ := own_ty (show w.ownsRow base 3 1 _ _ (nCells _) from h.rws.own j hj) b hf
    rw [h.blk] at h2
    simp at h2
  rcases hb with hb | hb | hb | hb
  · exact hx 0 (by decide) hb
  · exact hx 1 (by decide) hb
  · exact hx 2 (by decide) hb
  · obtain ⟨cs, h2⟩ := own_ty (show w.ownsRow base 164 3 rv R.length (rCells R) from h.own) b hb
    rw [h.blk] at h2
    simp at h2
theorem PrM.cells (h : PrM w base pb lv pv ov rv L P O R) : w.cell? ⟨pb, 0, none⟩ = some lv ∧ w.cell? ⟨pb, 1, none⟩ = some pv ∧ w.cell? ⟨pb, 2, none⟩ = some ov ∧ w.cell? ⟨pb, 3, none⟩ = some rv :=
  ⟨by rw [cell_of_row _ _ _ _ _ _ h.blk]; rfl, by rw [cell_of_row _ _ _ _ _ _ h.blk]; rfl, by rw [cell_of_row _ _ _ _ _ _ h.blk]; rfl, by rw [cell_of_row _ _ _ _ _ _ h.blk]; rfl⟩
/-- A mark: five cells. -/
theorem PrM.mark {lg pg rg nl cl np cp cr : Nat} (h : PrM w base pb (.slice (some ⟨lg, 0, none⟩) nl cl) (.slice (some ⟨pg, 0, none⟩) np cp) ov (.slice (some ⟨rg, 0, none⟩) R.length cr) L P O R) (m s q o k : Nat) (hk : k < R.length) :
    PrM (((((w.setCell ⟨lg, m, none⟩ (.int .i64 (s : Int))).setCell ⟨lg, q, none⟩ (.int .i64 (o : Int))).setCell ⟨pg, o, none⟩ (.int .i64 (q : Int))).setCell ⟨pg, s, none⟩ (.int .i64 (m : Int))).setCell ⟨rg, k * 3 + 1, none⟩ (.int .i64 ((m + 1 : Nat) : Int))) base pb (.slice (some ⟨lg, 0, none⟩) nl cl) (.slice (some ⟨pg, 0, none⟩) np cp) ov (.slice (some ⟨rg, 0, none⟩) R.length cr) ((L.set m s).set q o) ((P.set o q).set s m) O (R.set k ⟨(gR R k).a, m + 1, (gR R k).e⟩) ∧
    Kept (inP (.slice (some ⟨lg, 0, none⟩) nl cl) (.slice (some ⟨pg, 0, none⟩) np cp) ov (.slice (some ⟨rg, 0, none⟩) R.length cr)) w (((((w.setCell ⟨lg, m, none⟩ (.int .i64 (s : Int))).setCell ⟨lg, q, none⟩ (.int .i64 (o : Int))).setCell ⟨pg, o, none⟩ (.int .i64 (q : Int))).setCell ⟨pg, s, none⟩ (.int .i64 (m : Int))).setCell ⟨rg, k * 3 + 1, none⟩ (.int .i64 ((m + 1 : Nat) : Int))) := by
  have hl : inP (.slice (some ⟨lg, 0, none⟩) nl cl) (.slice (some ⟨pg, 0, none⟩) np cp) ov (.slice (some ⟨rg, 0, none⟩) R.length cr) lg := .inl rfl
  have hp : inP (.slice (some ⟨lg, 0, none⟩) nl cl) (.slice (some ⟨pg, 0, none⟩) np cp) ov (.slice (some ⟨rg, 0, none⟩) R.length cr) pg := .inr (.inl rfl)
  have hr : inP (.slice (some ⟨lg, 0, none⟩) nl cl) (.slice (some ⟨pg, 0, none⟩) np cp) ov (.slice (some ⟨rg, 0, none⟩) R.length cr) rg := .inr (.inr (.inr rfl))
  have r1 := h.rws.store (i := 0) (by simp) rfl m s
  have r2 := r1.store (i := 0) (by simp) rfl q o
  have r3 := r2.store (i := 1) (by simp) rfl o q
  have r4 := r3.store (i := 1) (by simp) rfl s m
  have oL : w.ownsRow base 3 1 (.slice (some ⟨lg, 0, none⟩) nl cl) L.length (nCells L) := h.rws.own 0 (by simp)
  have oP : w.ownsRow base 3 1 (.slice (some ⟨pg, 0, none⟩) np cp) P.length (nCells P) := h.rws.own 1 (by simp)
  have oR : w.ownsRow base 164 3 (.slice (some ⟨rg, 0, none⟩) R.length cr) R.length (rCells R) := h.own
  have k4 : Kept (fun b => b = lg ∨ b = pg) w ((((w.setCell ⟨lg, m, none⟩ (.int .i64 (s : Int))).setCell ⟨lg, q, none⟩ (.int .i64 (o : Int))).setCell ⟨pg, o, none⟩ (.int .i64 (q : Int))).setCell ⟨pg, s, none⟩ (.int .i64 (m : Int))) :=
    ((((Kept.refl _ _).setCell (p := ⟨lg, m, none⟩) (.inl rfl) _).setCell (p := ⟨lg, q, none⟩) (.inl rfl) _).setCell (p := ⟨pg, o, none⟩) (.inr rfl) _).setCell (p := ⟨pg, s, none⟩) (.inr rfl) _
  have o4 : OwnR ((((w.setCell ⟨lg, m, none⟩ (.int .i64 (s : Int))).setCell ⟨lg, q, none⟩ (.int .i64 (o : Int))).setCell ⟨pg, o, none⟩ (.int .i64 (q : Int))).setCell ⟨pg, s, none⟩ (.int .i64 (m : Int))) base (.slice (some ⟨rg, 0, none⟩) R.length cr) R := own_kept oR k4 (fun b hb e => by
    rcases e with e | e
    · exact own_ne oR oL (by decide) b hb (by rw [e]; rfl)
    · exact own_ne oR oP (by decide) b hb (by rw [e]; rfl))
  obtain ⟨o5, k5⟩ := o4.mark hk (m + 1)
  have r5 := r4.kept k5 (fun j hj b hb e => by
    subst e
    exact own_ne (show ((((w.setCell ⟨lg, m, none⟩ (.int .i64 (s : Int))).setCell ⟨lg, q, none⟩ (.int .i64 (o : Int))).setCell ⟨pg, o, none⟩ (.int .i64 (q : Int))).setCell ⟨pg, s, none⟩ (.int .i64 (m : Int))).ownsRow base 3 1 _ _ (nCells _) from r4.own j hj) o4 (by decide) _ hb rfl)
  have kk := (k4.mono (G := inP (.slice (some ⟨lg, 0, none⟩) nl cl) (.slice (some ⟨pg, 0, none⟩) np cp) ov (.slice (some ⟨rg, 0, none⟩) R.length cr)) (fun b hb => hb.elim (fun e => e ▸ hl) (fun e => e ▸ hp))).trans (k5.mono (fun b e => e ▸ hr))
  refine ⟨⟨(kk.block pb (lt_of_block h.blk) (fun hb => h.notpb _ hb rfl)).trans h.blk, h.ge, r5, o5⟩, kk⟩
end
end Go.Proofs.YtdgoilkgplnhfaaGreat
/-
  The columns of all bytes as a text; whether a number is a label. Condition: at most 2^32 columns.
-/
namespace Go.Proofs.YtdgoilkgplnhfaaGreat
open Go.RowKit Go.Lib

def Lab (l : Int) : Prop := 0 ≤ l ∧ l ≤ 65535
instance (l : Int) : Decidable (Lab l) := inferInstanceAs (Decidable (0 ≤ l ∧ l ≤ 65535))
set_option maxRecDepth 100000 in
theorem isLabel_any (l : Int) (w : World) : Calls Tryz.prog 64 #[.int .i64 l] w fun e w' => e = .returned (.bool (decide (Lab l))) ∧ w' = w := by
  by_cases h1 : 0 ≤ l
  · by_cases h2 : l ≤ 65535
    · have HE : Hid (decide (Lab l) = true) := decide_eq_true ⟨h1, h2⟩
      go_enter Tryz.func64, Tryz.ntmps64
      go_wp2
      go_ret
      exact ⟨by rw [HE.out]; first | rfl | simp_all, rfl⟩
    · have HE : Hid (decide (Lab l) = false) := decide_eq_false (fun h => h2 h.2)
      go_enter Tryz.func64, Tryz.ntmps64
      go_wp2
      go_ret
      exact ⟨by rw [HE.out]; first | rfl | simp_all, rfl⟩
  · have HE : Hid (decide (Lab l) = false) := decide_eq_false (fun h => h1 h.1)
    go_enter Tryz.func64, Tryz.ntmps64
    go_wp2
    go_ret
    exact ⟨by rw [HE.out]; first | rfl | simp_all, rfl⟩
/-- Bytes in a row of their own. -/
def uCells (L : List Nat) : List Value := L.map fun (n : Nat) => Value.int .u8 (n : Int)
def OwnU (w : World) (base : Nat) (v : Value) (L : List Nat) : Prop := w.ownsRow base 5 1 v L.length (uCells L)
theorem Tryz.info5n : (Tryz.prog.info? 5).map (fun i => (i.zero, i.size, i.bytes)) = some (some (.int .u8 0), 1, 1) := by kernel_rfl
theorem made_bytes (n : Nat) : (madeCells (Value.int .u8 0).cells (n * 1)).toList = uCells (List.replicate n 0) := by
  unfold uCells
  simp only [madeCells, Value.cells, List.map_replicate, Nat.mul_one]
  rw [List.eq_replicate_iff]
  refine ⟨by simp, fun b hb => ?_⟩
  simp only [Array.toList_map, List.mem_map] at hb
  obtain ⟨x, _, rfl⟩ := hb
  simp [Nat.mod_one]
theorem OwnU.slot {w : World} {base g n : Nat} {L : List Nat} (h : OwnU w base (.slice (some ⟨g, 0, none⟩) n n) L) {i : Nat} (hi : i < L.length) : n = L.length ∧ w.cell? ⟨g, i, none⟩ = some (.int .u8 (L[i] : Int)) ∧ w.frozen? ⟨g, i, none⟩ = false := by
  have hh : w.ownsRow base 5 1 (.slice (some ⟨g, 0, none⟩) n n) L.length (uCells L) := h
  have hn : n = L.length := by
    rcases hh.2 with ⟨e, e2⟩ | ⟨g', c', cur, e, _⟩
    · cases e
    · injection e with _ e2 _
  subst hn
  exact ⟨rfl, by rw [hh.cellAt i (by omega)]; simp [uCells, hi], hh.frozenAt _⟩
theorem OwnU.store {w : World} {base g n : Nat} {L : List Nat} (h : OwnU w base (.slice (some ⟨g, 0, none⟩) n n) L) (hn : n = L.length) (i x : Nat) : OwnU (w.setCell ⟨g, i, none⟩ (.int .u8 (x : Int))) base (.slice (some ⟨g, 0, none⟩) n n) (L.set i x) ∧ Kept (fun k => k = g) w (w.setCell ⟨g, i, none⟩ (.int .u8 (x : Int))) := by
  subst hn
  have hh : w.ownsRow base 5 1 (.slice (some ⟨g, 0, none⟩) L.length L.length) L.length (uCells L) := h
  obtain ⟨h1, h2⟩ := hh.stored i (.int .u8 (x : Int))
  refine ⟨?_, (kept_of_grown h2).mono (fun k hk => by injection hk with hk; exact hk.symm)⟩
  unfold OwnU
  rw [List.length_set, show uCells (L.set i x) = (uCells L).set i (.int .u8 (x : Int)) by simp [uCells, List.map_set]]
  exact h1
def btOf (L : List Nat) : By := L.map UInt8.ofNat
set_option maxRecDepth 100000 in
set_option maxHeartbeats 2000000 in
theorem byteColumns_any (ao : Option Addr) (cap : Nat) (L : List Nat) (w : World) (hl : L.length ≤ 4294967296) (h256 : ∀ x ∈ L, x < 256) (hat : NAt w ao L) :
    Calls Tryz.prog 48 #[.slice ao L.length cap] w fun e w' => e = .returned (.string ⟨(btOf L).toArray⟩) ∧ Below w.heap.size w w' := by
  obtain ⟨i5, hi5, hz50, hz51, hz52⟩ := info_parts Tryz.info5n
  have HAT := hide hat
  have HX := hide h256
  clear hat h256
  go_enter Tryz.func48, Tryz.ntmps48
  go_wp2_with (at_make; refine wpList_make_full _ rfl (.tmp 7) (.tmp 7) 89 rfl w.heap.size 5 i5 (.int .u8 0) 1 Tryz.underlying89 hi5 hz50 hz51 .i64 .i64 _ _ L.length rfl rfl rfl rfl (by rw [hz52]; omega) (by unfold maxLen; omega) (Nat.le_refl _) ?_; intro w2 h1 h2; have X2 := hide (below_of_grown h2); have O2 : Hid (OwnU w2 w.heap.size (.slice (some ⟨w.heap.size, 0, none⟩) L.length L.length) (L.take 0 ++ List.replicate (L.length - 0) 0)) := (by unfold Hid OwnU; rw [made_bytes] at h1; simpa using h1); clear h1 h2)
  go_loopg [11] (L.length + 1) (fun g x wr => ∃ i : Nat, x = .int .i64 i ∧ i ≤ L.length ∧ Hid (OwnU wr w.heap.size (.slice (some ⟨w.heap.size, 0, none⟩) L.length L.length) (L.take i ++ List.replicate (L.length - i) 0)) ∧ Hid (Below w.heap.size w wr) ∧ L.length - i < g)
  case atStart => exact ⟨0, rfl, by omega, O2, X2, by omega⟩
  case round =>
    obtain ⟨i, rfl, hi1, O, XB, hg⟩ := hrel
    have HG := hide hg
    clear hg O2 X2
    by_cases hi : i < L.length
    · have hi' : (i : Int) < (L.length : Int) := by omega
      obtain ⟨b, off, rfl, hb, c0⟩ := (HAT.out.below XB.out).get hi
      have hx := HX.out L[i] (List.getElem_mem hi)
      have hll : (L.take i ++ List.replicate (L.length - i) 0).length = L.length := by simp; omega
      obtain ⟨u1, q1, q2⟩ : ∃ u, wr.cell? ⟨w.heap.size, i, none⟩ = some u ∧ wr.frozen? ⟨w.heap.size, i, none⟩ = false := by obtain ⟨_, q1, q2⟩ := O.out.slot (i := i) (by omega); exact ⟨_, q1, q2⟩
      obtain ⟨o3, k3⟩ := O.out.store hll.symm i L[i]
      have e3 : (L.take i ++ List.replicate (L.length - i) 0).set i L[i] = L.take (i + 1) ++ List.replicate (L.length - (i + 1)) 0 := by
        rw [List.set_append_right _ _ (by simp; omega), List.take_succ_eq_append_getElem hi, List.append_assoc]
        congr 1
        obtain ⟨m, hm⟩ : ∃ m, L.length - i = m + 1 := ⟨L.length - i - 1, by omega⟩
        rw [hm, show L.length - (i + 1) = m by omega, show i - (L.take i).length = 0 by simp; omega]
        rfl
      rw [e3] at o3
      have O3 := hide o3
      have X3 := hide (XB.out.trans (k3.below XB.out.size (fun k hk => by omega)))
      have f1 : IntKind.u8.wrap ((L[i] : Nat) : Int) = ((L[i] : Nat) : Int) := by simp [IntKind.wrap, IntKind.bits, IntKind.signed]; omega
      generalize L[i] = y at *
      clear o3 k3 e3 hll
      go_wp2
      go_roundg (L.length - (i + 1) + 1)
      case measure => have := HG.out; omega
      case rel => exact ⟨i + 1, by first | rfl | go_num | (congr 1; omega), by omega, O3, X3, by omega⟩
    · have hi' : ¬ (i : Int) < (L.length : Int) := by omega
      obtain rfl : i = L.length := by omega
      have o4 : OwnU wr w.heap.size (.slice (some ⟨w.heap.size, 0, none⟩) L.length L.length) L := by have := O.out; rwa [Nat.sub_self, List.replicate_zero, List.append_nil, List.take_length] at this
      have hcv : (convert 89 9 (.slice (some ⟨w.heap.size, 0, none⟩) L.length L.length)).run Tryz.prog wr = .ok (.string (strOfNums (L.map fun b : Nat => (b : Int)))) wr := by
        refine run_convert_bytes_arg wr 89 5 Tryz.underlying89 Tryz.underlying5 w.heap.size 0 L.length L.length (L.map fun b : Nat => (b : Int)) (by simp) (fun i hi => ?_) 9 Tryz.underlying9
        rw [Nat.zero_add, (o4.slot hi).2.1]
        simp [List.getD_eq_getElem?_getD, hi]
      have HE : Hid (strOfNums (L.map fun b : Nat => (b : Int)) = ⟨(btOf L).toArray⟩) := by
        unfold Hid strOfNums btOf
        rw [List.map_map]
        rfl
      rw [HE.out] at hcv
      clear o4
      go_wp2
      go_ret
      exact ⟨rfl, XB.out⟩
end Go.Proofs.YtdgoilkgplnhfaaGreat
