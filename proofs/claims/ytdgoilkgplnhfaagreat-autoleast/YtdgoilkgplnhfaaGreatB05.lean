/-
  An automaton as it lies in memory; its width, a step of it. Condition: lists no longer than a process can hold.
-/
import Derived.Test.YtdgoilkgplnhfaaGreatB04
import Derived.Test.YtdgoilkgplnhfaaGreatB03
namespace Go.Proofs.YtdgoilkgplnhfaaGreat
open Go.RowKit Go.Lib
def NAt (w : World) (ao : Option Addr) (L : List Nat) : Prop := L = [] ∨ ∃ b off, ao = some ⟨b, off, none⟩ ∧ b < w.heap.size ∧ ∀ i (h : i < L.length), w.cell? ⟨b, off + i, none⟩ = some (.int .i64 (L[i] : Int))
theorem NAt.below {w w' : World} {ao : Option Addr} {L : List Nat} (h : NAt w ao L) (hb : Below w.heap.size w w') : NAt w' ao L := by
  rcases h with h | ⟨b, off, h1, h2, h3⟩
  · exact .inl h
  · exact .inr ⟨b, off, h1, Nat.lt_of_lt_of_le h2 hb.size, fun i hi => (hb.cell (p := ⟨b, off + i, none⟩) h2).trans (h3 i hi)⟩
theorem NAt.get {w : World} {ao : Option Addr} {L : List Nat} (h : NAt w ao L) {i : Nat} (hi : i < L.length) : ∃ b off, ao = some ⟨b, off, none⟩ ∧ b < w.heap.size ∧ w.cell? ⟨b, off + i, none⟩ = some (.int .i64 (L[i] : Int)) := by
  rcases h with h | ⟨b, off, h1, h2, h3⟩
  · rw [h] at hi; cases hi
  · exact ⟨b, off, h1, h2, h3 i hi⟩
theorem OwnN.at {w : World} {base : Nat} {v : Value} {L : List Nat} (h : OwnN w base v L) : ∃ ao cap, v = .slice ao L.length cap ∧ NAt w ao L := by
  have hh : w.ownsRow base 3 1 v L.length (nCells L) := h
  rcases hh.2 with ⟨rfl, hn⟩ | ⟨g, cap, cur, rfl, hb, hg, r⟩
  · exact ⟨none, 0, by rw [hn], .inl (List.eq_nil_of_length_eq_zero hn)⟩
  · refine ⟨_, cap, rfl, .inr ⟨g, 0, rfl, lt_of_block hg, fun i hi => ?_⟩⟩
    have := h.cell hi
    simpa using this
def auV (bs : By) (na : Option Addr) (nl nc : Nat) (oa : Option Addr) (ol oc : Nat) : Value := .agg #[.string ⟨bs.toArray⟩, .slice na nl nc, .slice oa ol oc]
set_option maxRecDepth 100000 in
theorem width_any (bs : By) (na oa : Option Addr) (nl nc ol oc : Nat) (w : World) (hn : nl ≤ 140737488351232) (ho : 0 < ol) :
    Calls Tryz.prog 94 #[auV bs na nl nc oa ol oc] w fun e w' => e = .returned (.int .i64 ((nl / ol : Nat) : Int)) ∧ Below w.heap.size w w' := by
  have hq : (nl : Int).tdiv (ol : Int) = ((nl / ol : Nat) : Int) := by rw [Int.tdiv_eq_ediv_of_nonneg (by omega)]; rfl
  have hle : nl / ol ≤ nl := Nat.div_le_self _ _
  generalize nl / ol = m at *
  have hw : IntKind.i64.wrap (m : Int) = (m : Int) := by simp [IntKind.wrap, IntKind.bits, IntKind.signed]; omega
  have h0 : ¬ (ol : Int) = 0 := by omega
  have X := hide (al (Below.refl w.heap.size w) (.cells #[.string ⟨bs.toArray⟩, .slice na nl nc, .slice oa ol oc] 24))
  unfold auV
  go_enter Tryz.func94, Tryz.ntmps94
  go_wp2
  go_ret
  exact ⟨rfl, X.out⟩
theorem w64_n (n : Nat) (h : n ≤ 9223372036854775807) : IntKind.i64.wrap (n : Int) = (n : Int) := by simp [IntKind.wrap, IntKind.bits, IntKind.signed]; omega
set_option maxRecDepth 100000 in
set_option maxHeartbeats 2000000 in
theorem step_any (bs : By) (na oa : Option Addr) (nc oc ol s b W c : Nat) (NX : List Nat) (w : World) (hn : NX.length ≤ 140737488351232) (ho : 0 < ol) (hW : NX.length / ol = W) (hb : b < bs.length) (hc : (bs[b]).toNat = c) (hi : s * W + c < NX.length) (hat : NAt w na NX) :
    Calls Tryz.prog 58 #[auV bs na NX.length nc oa ol oc, .int .i64 (s : Nat), .int .i64 (b : Nat)] w fun e w' => e = .returned (.int .i64 ((NX[s * W + c] : Nat) : Int)) ∧ Below w.heap.size w w' := by
  obtain ⟨nb, off, rfl, hnb, cx⟩ := hat.get hi
  generalize NX[s * W + c] = r at *
  have hwd := fun W' => width_any bs (some ⟨nb, off, none⟩) oa NX.length nc ol oc W' hn ho
  rw [hW] at hwd
  have hsW : s * W ≤ 140737488351232 := by omega
  have hbt : c < 256 := by rw [← hc]; exact (bs[b]).toNat_lt
  obtain ⟨y, hy⟩ : ∃ y, bs[b] = y := ⟨_, rfl⟩
  have hg : ∀ hk, (⟨bs.toArray⟩ : ByteArray)[b]'hk = y := fun _ => hy
  have f2 : IntKind.i64.wrap ((y.toNat : Nat) : Int) = (c : Int) := by rw [← hy, hc]; exact w64_n _ (by omega)
  clear hc hy
  have f1 : IntKind.i64.wrap ((s : Int) * (W : Int)) = ((s * W : Nat) : Int) := by rw [show (s : Int) * (W : Int) = ((s * W : Nat) : Int) by simp]; exact w64_n _ (by omega)
  generalize hm : s * W = m at *
  have f3 : IntKind.i64.wrap ((m : Int) + (c : Int)) = ((m + c : Nat) : Int) := by rw [show (m : Int) + (c : Int) = ((m + c : Nat) : Int) by simp]; exact w64_n _ (by omega)
  have hlb : (b : Int) < (bs.length : Int) := by omega
  have hln : (m : Int) + (c : Int) < (NX.length : Int) := by omega
  have hlz : (0 : Int) ≤ (m : Int) + (c : Int) := by omega
  have hlt : ((m : Int) + (c : Int)).toNat = m + c := by omega
  have X1 := hide (al (Below.refl w.heap.size w) (.cells #[.string ⟨bs.toArray⟩, .slice (some ⟨nb, off, none⟩) NX.length nc, .slice oa ol oc] 24))
  have B1 := heap_alloc_new w (.cells #[.string ⟨bs.toArray⟩, .slice (some ⟨nb, off, none⟩) NX.length nc, .slice oa ol oc] 24)
  have c0 : (w.alloc (.cells #[.string ⟨bs.toArray⟩, .slice (some ⟨nb, off, none⟩) NX.length nc, .slice oa ol oc] 24)).cell? ⟨w.heap.size, 0, none⟩ = some (.string ⟨bs.toArray⟩) := by rw [cell_of_row _ _ _ _ _ _ B1]; rfl
  have c1 : (w.alloc (.cells #[.string ⟨bs.toArray⟩, .slice (some ⟨nb, off, none⟩) NX.length nc, .slice oa ol oc] 24)).cell? ⟨w.heap.size, 1, none⟩ = some (.slice (some ⟨nb, off, none⟩) NX.length nc) := by rw [cell_of_row _ _ _ _ _ _ B1]; rfl
  have c2 : (w.alloc (.cells #[.string ⟨bs.toArray⟩, .slice (some ⟨nb, off, none⟩) NX.length nc, .slice oa ol oc] 24)).cell? ⟨w.heap.size, 2, none⟩ = some (.slice oa ol oc) := by rw [cell_of_row _ _ _ _ _ _ B1]; rfl
  have c3 := (X1.out.cell (p := ⟨nb, off + (m + c), none⟩) hnb).trans cx
  have hl1 := lt_of_block B1
  have hl2 : nb < (w.alloc (.cells #[.string ⟨bs.toArray⟩, .slice (some ⟨nb, off, none⟩) NX.length nc, .slice oa ol oc] 24)).heap.size := Nat.lt_of_lt_of_le hnb X1.out.size
  clear cx B1
  unfold auV
  go_enter Tryz.func58, Tryz.ntmps58
  go_wp2
  generalize w.alloc (.cells #[.string ⟨bs.toArray⟩, .slice (some ⟨nb, off, none⟩) NX.length nc, .slice oa ol oc] 24) = w1 at *
  have HDr : Hid (Below w1.heap.size w1 w1.drew) := (Below.refl _ _).drew
  refine wp_region_quiet (C := fun w' => Below w1.heap.size w1 w') (by kernel_rfl) (by kernel_rfl) HDr.out ?_
  refine QW.out (l := _ :: _) ?_
  iterate 4 (refine QW.take (by rfl) ?_; apply Exists.intro; refine ⟨fun w' hw' => ?_, ?_⟩; (· (have g0 := (hw'.cell (p := ⟨w.heap.size, 0, none⟩) hl1).trans c0; have g1 := (hw'.cell (p := ⟨w.heap.size, 1, none⟩) hl1).trans c1; have g2 := (hw'.cell (p := ⟨w.heap.size, 2, none⟩) hl1).trans c2; have g3 := (hw'.cell (p := ⟨nb, off + (m + c), none⟩) hl2).trans c3; go_simp; first | done | (first | done | rfl))); try simp only [Act.put, List.setIfInBounds_toArray, List.set_cons_zero, List.set_cons_succ])
  iterate 1 (refine QW.take (by rfl) ?_; apply Exists.intro; refine ⟨fun w' hw' => ?_, ?_⟩; (· (have g0 := (hw'.cell (p := ⟨w.heap.size, 0, none⟩) hl1).trans c0; have g1 := (hw'.cell (p := ⟨w.heap.size, 1, none⟩) hl1).trans c1; have g2 := (hw'.cell (p := ⟨w.heap.size, 2, none⟩) hl1).trans c2; have g3 := (hw'.cell (p := ⟨nb, off + (m + c), none⟩) hl2).trans c3; go_simp; (refine (hwd _).mono ?_; rintro e w2 ⟨rfl, x2⟩; exact ⟨rfl, hw'.trans (x2.mono hw'.size)⟩))); try simp only [Act.put, List.setIfInBounds_toArray, List.set_cons_zero, List.set_cons_succ])
  iterate 10 (refine QW.take (by rfl) ?_; apply Exists.intro; refine ⟨fun w' hw' => ?_, ?_⟩; (· (have g0 := (hw'.cell (p := ⟨w.heap.size, 0, none⟩) hl1).trans c0; have g1 := (hw'.cell (p := ⟨w.heap.size, 1, none⟩) hl1).trans c1; have g2 := (hw'.cell (p := ⟨w.heap.size, 2, none⟩) hl1).trans c2; have g3 := (hw'.cell (p := ⟨nb, off + (m + c), none⟩) hl2).trans c3; go_simp; first | done | (first | done | rfl))); try simp only [Act.put, List.setIfInBounds_toArray, List.set_cons_zero, List.set_cons_succ])
  refine QW.nil ?_
  intro w7 x7
  have X7 := hide (bt X1.out x7 (Nat.le_refl _))
  clear x7 c0 c1 c2 c3
  go_wp2
  go_ret
  exact ⟨rfl, X7.out⟩
abbrev RN := Value × List Nat
structure Rws (w : World) (base : Nat) (R : List RN) : Prop where
  own : ∀ j (h : j < R.length), OwnN w base (R[j]).1 (R[j]).2
  ap : ∀ j (h : j < R.length) k (h' : k < R.length), j ≠ k → ∀ b, (R[j]).1.ownBlock = some b → ¬ (R[k]).1.ownBlock = some b
section
variable {w w' : World} {base : Nat} {R : List RN}
theorem Rws.below (h : Rws w base R) (x : Below w.heap.size w w') : Rws w' base R := ⟨fun j hj => own_below (h.own j hj) x, h.ap⟩
theorem Rws.kept {F : Nat → Prop} (h : Rws w base R) (x : Kept F w w') (hF : ∀ j (h : j < R.length) b, (R[j]).1.ownBlock = some b → ¬ F b) : Rws w' base R := ⟨fun j hj => own_kept (h.own j hj) x (hF j hj), h.ap⟩
theorem Rws.upd {F : Nat → Prop} (h : Rws w base R) {i : Nat} (hi : i < R.length) {v' : Value} {L' : List Nat} (h1 : OwnN w' base v' L') (hk : Kept F w w') (hF : ∀ b, F b → (R[i]).1.ownBlock = some b) (hv : ∀ b, v'.ownBlock = some b → (R[i]).1.ownBlock = some b ∨ w.heap.size ≤ b) : Rws w' base (R.set i (v', L')) := by
  refine ⟨fun j hj => ?_, fun j hj k hk' hne b hb hb2 => ?_⟩
  · rw [List.length_set] at hj
    by_cases hji : i = j
    · subst hji
      rw [List.getElem_set_self]
      exact h1
    · rw [List.getElem_set_ne hji]
      exact own_kept (h.own j hj) hk (fun b hb hf => h.ap j hj i hi (fun e => hji e.symm) b hb (hF b hf))
  · rw [List.length_set] at hj hk'
    have hlt : ∀ m (hm : m < R.length) b, (R[m]).1.ownBlock = some b → b < w.heap.size := fun m hm b hb => (World.ownsRow.lt (show w.ownsRow base 3 1 (R[m]).1 _ (nCells _) from h.own m hm) b hb).2
    by_cases hji : i = j
    · subst hji
      rw [List.getElem_set_self] at hb
      rw [List.getElem_set_ne hne] at hb2
      rcases hv b hb with h3 | h3
      · exact h.ap i hi k hk' hne b h3 hb2
      · have := hlt k hk' b hb2; omega
    · rw [List.getElem_set_ne hji] at hb
      by_cases hki : i = k
      · subst hki
        rw [List.getElem_set_self] at hb2
        rcases hv b hb2 with h3 | h3
        · exact h.ap j hj i hi hne b hb h3
        · have := hlt j hj b hb; omega
      · rw [List.getElem_set_ne hki] at hb2
        exact h.ap j hj k hk' hne b hb hb2
theorem Rws.app (h : Rws w base R) {i : Nat} (hi : i < R.length) {v' : Value} {x : Nat} {L : List Nat} (h1 : w'.ownsRow base 3 1 v' (L.length + 1) (nCells L ++ [.int .i64 (x : Int)])) (h2 : AppAt w w' (R[i]).1 v') : Rws w' base (R.set i (v', L ++ [x])) := by
  have o : OwnN w' base v' (L ++ [x]) := by
    unfold OwnN
    rw [nCells_snoc, List.length_append, List.length_singleton]
    exact h1
  rcases h2 with ⟨q, a, b, c⟩ | ⟨a, b⟩
  · exact h.upd hi o (kept_of_grown c) (fun k hk => a.trans hk) (fun k hk => .inl (by rw [a, ← b]; exact hk))
  · exact h.upd (F := fun _ => False) hi o (Kept.of_below (below_of_grown a)) (fun k hk => hk.elim) (fun k hk => .inr (b k hk))
theorem Rws.store (h : Rws w base R) {i : Nat} (hi : i < R.length) {g n cap : Nat} {L : List Nat} (hR : R[i] = (.slice (some ⟨g, 0, none⟩) n cap, L)) (k x : Nat) : Rws (w.setCell ⟨g, k, none⟩ (.int .i64 (x : Int))) base (R.set i (.slice (some ⟨g, 0, none⟩) n cap, L.set k x)) := by
  have ho := h.own i hi
  rw [hR] at ho
  obtain ⟨o1, k1⟩ := ho.store k x
  exact h.upd hi o1 k1 (fun b hb => by rw [hR, hb]; rfl) (fun b hb => .inl (by rw [hR]; exact hb))
theorem Rws.cons (h : Rws w base R) (x : Below w.heap.size w w') {v : Value} {L : List Nat} (ho : OwnN w' base v L) (hb : ∀ b, v.ownBlock = some b → w.heap.size ≤ b) : Rws w' base (R ++ [(v, L)]) := by
  have h' := h.below x
  have hlt : ∀ m (hm : m < R.length) b, (R[m]).1.ownBlock = some b → b < w.heap.size := fun m hm b hb => (World.ownsRow.lt (show w.ownsRow base 3 1 (R[m]).1 _ (nCells _) from h.own m hm) b hb).2
  refine ⟨fun j hj => ?_, fun j hj k hk hne b h1 h2 => ?_⟩
  · by_cases hjl : j < R.length
    · rw [List.getElem_append_left hjl]; exact h'.own j hjl
    · have : j = R.length := by rw [List.length_append, List.length_singleton] at hj; omega
      subst this
      rw [List.getElem_append_right (Nat.le_refl _)]
      simpa using ho
  · by_cases hjl : j < R.length
    · rw [List.getElem_append_left hjl] at h1
      by_cases hkl : k < R.length
      · rw [List.getElem_append_left hkl] at h2; exact h.ap j hjl k hkl hne b h1 h2
      · have : k = R.length := by rw [List.length_append, List.length_singleton] at hk; omega
        subst this
        rw [List.getElem_append_right (Nat.le_refl _)] at h2
        have := hlt j hjl b h1
        have := hb b (by simpa using h2)
        omega
    · have : j = R.length := by rw [List.length_append, List.length_singleton] at hj; omega
      subst this
      rw [List.getElem_append_right (Nat.le_refl _)] at h1
      have hkl : k < R.length := by rw [List.length_append, List.length_singleton] at hk; omega
      rw [List.getElem_append_left hkl] at h2
      have := hlt k hkl b h2
      have := hb b (by simpa using h1)
      omega
theorem Rws.nil (w : World) (base : Nat) : Rws w base [] := ⟨fun j hj => (by cases hj), fun j hj => (by cases hj)⟩
end
def OwnB (w : World) (base : Nat) (v : Value) (L : List Bool) : Prop := w.ownsRow base 4 1 v L.length (L.map Value.bool)
theorem made_falses (n : Nat) : (madeCells (Value.bool false).cells (n * 1)).toList = (List.replicate n false).map Value.bool := by
  simp only [madeCells, Value.cells, List.map_replicate, Nat.mul_one]
  rw [List.eq_replicate_iff]
  refine ⟨by simp, fun b hb => ?_⟩
  simp only [Array.toList_map, List.mem_map] at hb
  obtain ⟨x, _, rfl⟩ := hb
  simp [Nat.mod_one]
theorem Tryz.info4n : (Tryz.prog.info? 4).map (fun i => (i.zero, i.size, i.bytes)) = some (some (.bool false), 1, 1) := by kernel_rfl
theorem OwnB.len {w : World} {base g cap n : Nat} {L : List Bool} (h : OwnB w base (.slice (some ⟨g, 0, none⟩) n cap) L) : n = L.length := by
  have hh : w.ownsRow base 4 1 (.slice (some ⟨g, 0, none⟩) n cap) L.length (L.map Value.bool) := h
  rcases hh.2 with ⟨e, e2⟩ | ⟨g', c', cur, e, _⟩
  · cases e
  · injection e with _ e2 _
theorem OwnB.cell {w : World} {base g cap n : Nat} {L : List Bool} (h : OwnB w base (.slice (some ⟨g, 0, none⟩) n cap) L) {i : Nat} (hi : i < L.length) : w.cell? ⟨g, i, none⟩ = some (.bool L[i]) ∧ w.frozen? ⟨g, i, none⟩ = false := by
  obtain rfl := h.len
  have hh : w.ownsRow base 4 1 (.slice (some ⟨g, 0, none⟩) L.length cap) L.length (L.map Value.bool) := h
  exact ⟨by rw [hh.cellAt i (by omega)]; simp [hi], hh.frozenAt _⟩
theorem OwnB.store {w : World} {base g cap n : Nat} {L : List Bool} (h : OwnB w base (.slice (some ⟨g, 0, none⟩) n cap) L) (i : Nat) (x : Bool) : OwnB (w.setCell ⟨g, i, none⟩ (.bool x)) base (.slice (some ⟨g, 0, none⟩) n cap) (L.set i x) ∧ Kept (fun k => k = g) w (w.setCell ⟨g, i, none⟩ (.bool x)) := by
  obtain rfl := h.len
  have hh : w.ownsRow base 4 1 (.slice (some ⟨g, 0, none⟩) L.length cap) L.length (L.map Value.bool) := h
  obtain ⟨h1, h2⟩ := hh.stored i (.bool x)
  refine ⟨?_, (kept_of_grown h2).mono (fun k hk => by injection hk with hk; exact hk.symm)⟩
  unfold OwnB
  rw [List.length_set, List.map_set]
  exact h1
theorem OwnN.slot {w : World} {base g cap n : Nat} {L : List Nat} (h : OwnN w base (.slice (some ⟨g, 0, none⟩) n cap) L) {i : Nat} (hi : i < L.length) : w.cell? ⟨g, i, none⟩ = some (.int .i64 (L[i] : Int)) ∧ w.frozen? ⟨g, i, none⟩ = false := by
  refine ⟨h.cell hi, ?_⟩
  have hh : w.ownsRow base 3 1 (.slice (some ⟨g, 0, none⟩) n cap) L.length (nCells L) := h
  have hn : n = L.length := by
    rcases hh.2 with ⟨e, e2⟩ | ⟨g', c', cur, e, _⟩
    · cases e
    · injection e with _ e2 _
  subst hn
  exact hh.frozenAt _
end Go.Proofs.YtdgoilkgplnhfaaGreat
namespace Go.Proofs.YtdgoilkgplnhfaaGreat
structure HopS (D : DF) (k m : Nat) (f : Nat → Nat) : Prop where
  lt : ∀ s, s < D.n → f s < m
  co : ∀ s, s < D.n → ∀ t, t < D.n → D.Eqv s t → f s = f t
  ou : ∀ s, s < D.n → ∀ t, t < D.n → f s = f t → D.ou s = D.ou t
  hop : ∀ s, s < D.n → ∀ t, t < D.n → f s = f t → ∀ c, c < D.W → f (D.nx s c) = f (D.nx t c) ∨ k ≤ f (D.nx s c) ∨ k ≤ f (D.nx t c)
structure SplS (D : DF) (k m0 : Nat) (f0 : Nat → Nat) (C m : Nat) (f : Nat → Nat) : Prop where
  lt : ∀ s, s < D.n → f s < m
  mle : m0 ≤ m
  re : ∀ s, s < D.n → ∀ t, t < D.n → f s = f t → f0 s = f0 t
  st : ∀ c, c < C → ∀ s, s < D.n → ∀ t, t < D.n → f s = f t → (f0 (D.nx s c) = k ↔ f0 (D.nx t c) = k)
  kp : ∀ s, s < D.n → f s = f0 s ∨ m0 ≤ f s
  co : ∀ s, s < D.n → ∀ t, t < D.n → D.Eqv s t → f s = f t
section
variable {D : DF} {k m m0 C : Nat} {f f0 : Nat → Nat}
theorem SplS.start (h : HopS D k m f) : SplS D k m f 0 m f :=
  ⟨h.lt, Nat.le_refl _, fun _ _ _ _ e => e, fun c hc => by omega, fun _ _ => .inl rfl, h.co⟩
theorem SplS.next (hD : D.Pre) (h0 : HopS D k m0 f0) (h : SplS D k m0 f0 C m f) (hC : C < D.W) {m' : Nat} {f' : Nat → Nat} (hm : m ≤ m') (hlt : ∀ s, s < D.n → f' s < m') (hk : ∀ s, s < D.n → f' s = f s ∨ m ≤ f' s)
    (he : ∀ s, s < D.n → ∀ t, t < D.n → (f' s = f' t ↔ f s = f t ∧ (f0 (D.nx s C) = k ↔ f0 (D.nx t C) = k))) : SplS D k m0 f0 (C + 1) m' f' := by
  have ok := hD.toOk
  refine ⟨hlt, Nat.le_trans h.mle hm, fun s hs t ht e => h.re s hs t ht ((he s hs t ht).1 e).1, fun c hc s hs t ht e => ?_, fun s hs => ?_, fun s hs t ht e => ?_⟩
  · obtain ⟨e1, e2⟩ := (he s hs t ht).1 e
    by_cases h2 : c < C
    · exact h.st c h2 s hs t ht e1
    · have : c = C := by omega
      subst this
      exact e2
  · have := h.mle
    rcases hk s hs with h1 | h1
    · rcases h.kp s hs with h2 | h2
      · exact .inl (h1.trans h2)
      · exact .inr (by omega)
    · exact .inr (by omega)
  · obtain ⟨b, hb, rfl⟩ := hD.cols C hC
    have e2 := h0.co _ (ok.nx s hs _ (ok.bc b hb)) _ (ok.nx t ht _ (ok.bc b hb)) (e.step hb)
    exact (he s hs t ht).2 ⟨h.co s hs t ht e, by rw [e2]⟩
theorem HopS.next (hD : D.Ok) (h0 : HopS D k m0 f0) (hk : k < m0) (h : SplS D k m0 f0 D.W m f) : HopS D (k + 1) m f := by
  refine ⟨h.lt, h.co, fun s hs t ht e => h0.ou s hs t ht (h.re s hs t ht e), fun s hs t ht e c hc => ?_⟩
  have hx := hD.nx s hs c hc
  have hy := hD.nx t ht c hc
  have e1 := h0.hop s hs t ht (h.re s hs t ht e) c hc
  have e2 := h.st c hc s hs t ht e
  generalize D.nx s c = x at *
  generalize D.nx t c = y at *
  rcases h.kp x hx with p1 | p1
  · rcases h.kp y hy with p2 | p2
    · rw [p1, p2]
      omega
    · exact .inr (.inr (by omega))
  · exact .inr (.inl (by omega))
theorem HopS.same (hD : D.Ok) (hs : ∀ s, s < D.n → ∀ t, t < D.n → f s = f t → D.ou s = D.ou t) (hn : ∀ s, s < D.n → ∀ t, t < D.n → f s = f t → ∀ c, c < D.W → f (D.nx s c) = f (D.nx t c)) : ∀ {u : List Nat} {s t : Nat}, s < D.n → t < D.n → f s = f t → Txt u → D.lab s u = D.lab t u
  | [], s, t, h1, h2, e, _ => hs s h1 t h2 e
  | b :: u, s, t, h1, h2, e, hu => by
    have hb := hu.tail.1
    have := HopS.same hD hs hn (hD.step h1 hb) (hD.step h2 hb) (hn s h1 t h2 e _ (hD.bc b hb)) hu.tail.2
    exact this
theorem HopS.done (hD : D.Ok) (h : HopS D m m f) : ∀ s, s < D.n → ∀ t, t < D.n → (f s = f t ↔ D.Eqv s t) := fun s hs t ht =>
  ⟨fun e u hu => HopS.same hD h.ou (fun s hs t ht e c hc => by
    have := h.hop s hs t ht e c hc
    have := h.lt _ (hD.nx s hs c hc)
    have := h.lt _ (hD.nx t ht c hc)
    omega) hs ht e hu, h.co s hs t ht⟩
theorem HopS.alone (h : HopS D k m f) (hi : ∀ s, s < D.n → ∀ t, t < D.n → f s = f t → s = t) : ∀ s, s < D.n → ∀ t, t < D.n → (f s = f t ↔ D.Eqv s t) := fun s hs t ht =>
  ⟨fun e => by rw [hi s hs t ht e]; exact DF.Eqv.refl _ _, h.co s hs t ht⟩
end
def Many (D : DF) (N : Nat) : Prop := ∃ g : Nat → Nat, (∀ i, i < N → g i < D.n) ∧ ∀ i, i < N → ∀ j, j < N → D.Eqv (g i) (g j) → i = j
theorem HopS.many {D : DF} {k m : Nat} {f : Nat → Nat} (h : HopS D k m f) (hne : ∀ r, r < m → ∃ s, s < D.n ∧ f s = r) : Many D m := by
  have hc : ∀ r, ∃ s, r < m → s < D.n ∧ f s = r := fun r => by
    by_cases hr : r < m
    · obtain ⟨s, hs⟩ := hne r hr
      exact ⟨s, fun _ => hs⟩
    · exact ⟨0, fun h => absurd h hr⟩
  refine ⟨fun r => (hc r).choose, fun i hi => ((hc i).choose_spec hi).1, fun i hi j hj e => ?_⟩
  have h1 := (hc i).choose_spec hi
  have h2 := (hc j).choose_spec hj
  have := h.co _ h1.1 _ h2.1 e
  rw [h1.2, h2.2] at this
  exact this
theorem pigeon : ∀ (M N : Nat) (g : Nat → Nat), (∀ i, i < N → g i < M) → (∀ i, i < N → ∀ j, j < N → g i = g j → i = j) → N ≤ M
  | _, 0, _, _, _ => Nat.zero_le _
  | 0, N + 1, g, h, _ => absurd (h 0 (by omega)) (by omega)
  | M + 1, N + 1, g, h, hi => by
    have := pigeon M N (fun i => if g i = M then g N else g i) (fun i hi' => by
      have h1 := h i (by omega)
      have h2 := h N (by omega)
      by_cases e : g i = M
      · rw [if_pos e]
        have : ¬ g N = M := fun e2 => by have := hi i (by omega) N (by omega) (by omega); omega
        omega
      · rw [if_neg e]; omega) (fun i hi' j hj e => by
      have hij := hi i (by omega) j (by omega)
      have hiN := hi i (by omega) N (by omega)
      have hjN := hi j (by omega) N (by omega)
      by_cases e1 : g i = M
      · by_cases e2 : g j = M
        · exact hij (by omega)
        · rw [if_pos e1, if_neg e2] at e; omega
      · by_cases e2 : g j = M
        · rw [if_neg e1, if_pos e2] at e; omega
        · rw [if_neg e1, if_neg e2] at e; exact hij e)
    omega
theorem Many.le {D E : DF} {N : Nat} (hD : Many D N) (hr : ∀ s, s < D.n → ∃ t, Txt t ∧ D.run 0 t = s) (hE : E.Ok) (hl : ∀ t, Txt t → D.lab 0 t = E.lab 0 t) : N ≤ E.n := by
  obtain ⟨g, h1, h2⟩ := hD
  have hc : ∀ i, ∃ s', i < N → s' < E.n ∧ ∀ u, Txt u → E.lab s' u = D.lab (g i) u := fun i => by
    by_cases hi : i < N
    · obtain ⟨t, k1, k2⟩ := hr (g i) (h1 i hi)
      refine ⟨E.run 0 t, fun _ => ⟨hE.run hE.n0 k1, fun u hu => ?_⟩⟩
      have := hl (t ++ u) (k1.app hu)
      unfold DF.lab at this ⊢
      rw [DF.run_app, DF.run_app, k2] at this
      exact this.symm
    · exact ⟨0, fun h => absurd h hi⟩
  refine pigeon E.n N (fun i => (hc i).choose) (fun i hi => ((hc i).choose_spec hi).1) (fun i hi j hj e => h2 i hi j hj (fun u hu => ?_))
  have e' : (hc i).choose = (hc j).choose := e
  rw [← ((hc i).choose_spec hi).2 u hu, ← ((hc j).choose_spec hj).2 u hu, e']
structure RcS (D : DF) (fst St NX : List Nat) (i j : Nat) : Prop where
  s0 : 0 < St.length ∧ gN St 0 = 0
  nd : ∀ a, a < St.length → ∀ b, b < St.length → gN St a = gN St b → a = b
  lt : ∀ a, a < St.length → gN St a < D.n
  len : NX.length = i * fst.length + j
  jl : j ≤ fst.length
  il : i ≤ St.length
  nxt : ∀ q, q < NX.length → gN NX q < St.length ∧ gN St (gN NX q) = D.step (gN St (q / fst.length)) (gN fst (q % fst.length))
  occ : ∀ v, 0 < v → v < St.length → ∃ q, q < NX.length ∧ gN NX q = v ∧ q / fst.length < v
  fo : ∀ q, q < NX.length → ∀ v, 0 < v → v < gN NX q → ∃ q', q' < q ∧ gN NX q' = v
section
variable {D : DF} {fst St NX : List Nat} {i j : Nat}
theorem RcS.start (hn : 0 < D.n) : RcS D fst [0] [] 0 0 := by
  refine ⟨⟨by simp, rfl⟩, fun a ha b hb _ => by simp at ha hb; omega, fun a ha => ?_, by simp, by omega, by omega, fun q hq => by simp at hq, fun v h0 hv => by simp at hv; omega, fun q hq => by simp at hq⟩
  have : a = 0 := by simp at ha; omega
  subst this
  exact hn
theorem div_at {i j M : Nat} (h : j < M) : (i * M + j) / M = i ∧ (i * M + j) % M = j := by
  have h0 : 0 < M := by omega
  rw [Nat.mul_comm]
  exact ⟨by rw [Nat.mul_add_div h0, Nat.div_eq_of_lt h, Nat.add_zero], by rw [Nat.mul_add_mod, Nat.mod_eq_of_lt h]⟩
theorem RcS.old (h : RcS D fst St NX i j) (hj : j < fst.length) {v : Nat} (hv : v < St.length) (he : gN St v = D.step (gN St i) (gN fst j)) : RcS D fst St (NX ++ [v]) i (j + 1) := by
  have hl : (NX ++ [v]).length = NX.length + 1 := by simp
  have hd := div_at (i := i) hj
  rw [← h.len] at hd
  refine ⟨h.s0, h.nd, h.lt, by rw [hl, h.len]; omega, hj, h.il, fun q hq => ?_, fun x h0 hx => ?_, fun q hq x h0 hx => ?_⟩
  · by_cases h2 : q < NX.length
    · rw [gN_left h2]; exact h.nxt q h2
    · obtain rfl : q = NX.length := by omega
      rw [gN_last, hd.1, hd.2]; exact ⟨hv, he⟩
  · obtain ⟨q, h1, h2, h3⟩ := h.occ x h0 hx
    exact ⟨q, by omega, by rw [gN_left h1]; exact h2, h3⟩
  · by_cases h2 : q < NX.length
    · rw [gN_left h2] at hx
      obtain ⟨q', k1, k2⟩ := h.fo q h2 x h0 hx
      exact ⟨q', k1, by rw [gN_left (by omega)]; exact k2⟩
    · obtain rfl : q = NX.length := by omega
      rw [gN_last] at hx
      obtain ⟨q', k1, k2, _⟩ := h.occ x h0 (by omega)
      exact ⟨q', k1, by rw [gN_left k1]; exact k2⟩
theorem RcS.new (h : RcS D fst St NX i j) (hi : i < St.length) (hj : j < fst.length) {x : Nat} (hx : x < D.n) (hne : ∀ a, a < St.length → gN St a ≠ x) (he : x = D.step (gN St i) (gN fst j)) : RcS D fst (St ++ [x]) (NX ++ [St.length]) i (j + 1) := by
  have hl : (NX ++ [St.length]).length = NX.length + 1 := by simp
  have hls : (St ++ [x]).length = St.length + 1 := by simp
  have hd := div_at (i := i) hj
  rw [← h.len] at hd
  have hrow : ∀ q, q < NX.length → q / fst.length < St.length := fun q hq => by
    have h0 : 0 < fst.length := by omega
    have : q / fst.length ≤ i := by
      have h1 : q ≤ i * fst.length + j := by have := h.len; omega
      have h2 := Nat.div_le_div_right (c := fst.length) h1
      rw [(div_at (i := i) hj).1] at h2
      exact h2
    omega
  have gl : ∀ a, a < St.length → gN (St ++ [x]) a = gN St a := fun a ha => gN_left ha
  refine ⟨⟨by omega, by rw [gl 0 h.s0.1]; exact h.s0.2⟩, fun a ha b hb e => ?_, fun a ha => ?_, by rw [hl, h.len]; omega, hj, by have := h.il; omega, fun q hq => ?_, fun v h0 hv => ?_, fun q hq v h0 hv => ?_⟩
  · by_cases h1 : a < St.length
    · by_cases h2 : b < St.length
      · rw [gl a h1, gl b h2] at e; exact h.nd a h1 b h2 e
      · obtain rfl : b = St.length := by omega
        rw [gl a h1, gN_last] at e; exact absurd e (hne a h1)
    · obtain rfl : a = St.length := by omega
      by_cases h2 : b < St.length
      · rw [gl b h2, gN_last] at e; exact absurd e.symm (hne b h2)
      · omega
  · by_cases h1 : a < St.length
    · rw [gl a h1]; exact h.lt a h1
    · obtain rfl : a = St.length := by omega
      rw [gN_last]; exact hx
  · by_cases h2 : q < NX.length
    · obtain ⟨k1, k2⟩ := h.nxt q h2
      rw [gN_left h2, gl _ k1, gl _ (hrow q h2)]
      exact ⟨by omega, k2⟩
    · obtain rfl : q = NX.length := by omega
      rw [gN_last, gN_last, hd.1, hd.2, gl i hi]
      exact ⟨by omega, he⟩
  · by_cases h2 : v < St.length
    · obtain ⟨q, k1, k2, k3⟩ := h.occ v h0 h2
      exact ⟨q, by omega, by rw [gN_left k1]; exact k2, k3⟩
    · obtain rfl : v = St.length := by omega
      exact ⟨NX.length, by omega, gN_last _ _, by rw [hd.1]; exact hi⟩
  · by_cases h2 : q < NX.length
    · rw [gN_left h2] at hv
      obtain ⟨q', k1, k2⟩ := h.fo q h2 v h0 hv
      exact ⟨q', k1, by rw [gN_left (by omega)]; exact k2⟩
    · obtain rfl : q = NX.length := by omega
      rw [gN_last] at hv
      obtain ⟨q', k1, k2, _⟩ := h.occ v h0 hv
      exact ⟨q', k1, by rw [gN_left k1]; exact k2⟩
theorem RcS.row (h : RcS D fst St NX i fst.length) (hi : i < St.length) : RcS D fst St NX (i + 1) 0 :=
  ⟨h.s0, h.nd, h.lt, by rw [h.len, Nat.succ_mul]; omega, Nat.zero_le _, hi, h.nxt, h.occ, h.fo⟩
def rcD (D : DF) (col fst St NX : List Nat) : DF := ⟨St.length, fst.length, gN col, fun s c => gN NX (s * fst.length + c), fun s => D.ou (gN St s)⟩
theorem at_lt {s c n M : Nat} (hs : s < n) (hc : c < M) : s * M + c < n * M := by
  have : (s + 1) * M ≤ n * M := Nat.mul_le_mul_right M hs
  rw [Nat.succ_mul] at this
  omega
theorem RcS.done (h : RcS D fst St NX St.length 0) {col : List Nat} (hc : NumF D.bc 256 (gN col) (gN fst) fst.length) : (rcD D col fst St NX).Pre ∧ ∀ t, Txt t → (rcD D col fst St NX).lab 0 t = D.lab 0 t := by
  have hlen : NX.length = St.length * fst.length := by have := h.len; omega
  have hM : 0 < fst.length := (hc.zero (by decide)).2
  have hst : ∀ s, s < St.length → ∀ b, b < 256 → (rcD D col fst St NX).step s b < St.length ∧ gN St ((rcD D col fst St NX).step s b) = D.step (gN St s) b := fun s hs b hb => by
    have hcl := hc.numlt b hb
    have hq : s * fst.length + gN col b < NX.length := by rw [hlen]; exact at_lt hs hcl
    obtain ⟨k1, k2⟩ := h.nxt _ hq
    obtain ⟨e1, e2⟩ := div_at (i := s) hcl
    rw [e1, e2] at k2
    refine ⟨k1, k2.trans ?_⟩
    unfold DF.step
    rw [hc.lk b hb]
  have hrun : ∀ t, Txt t → ∀ s, s < St.length → (rcD D col fst St NX).run s t < St.length ∧ gN St ((rcD D col fst St NX).run s t) = D.run (gN St s) t := by
    intro t
    induction t with
    | nil => intro _ s hs; exact ⟨hs, rfl⟩
    | cons b t ih =>
      intro ht s hs
      obtain ⟨k1, k2⟩ := hst s hs b ht.tail.1
      rw [DF.run_cons, DF.run_cons, ← k2]
      exact ih ht.tail.2 _ k1
  refine ⟨⟨⟨h.s0.1, hM, fun b hb => hc.numlt b hb, fun s hs c hc' => (h.nxt _ (by rw [hlen]; exact at_lt hs hc')).1⟩, fun s hs => ?_, fun b hb v hv => hc.occ hb hv, fun c hc' => ⟨gN fst c, hc.fstlt c hc', hc.numfst c hc'⟩, fun s hs c hc' v h0 hv => ?_⟩, fun t ht => ?_⟩
  · induction s using Nat.strongRecOn with
    | _ s ih =>
      by_cases h0 : s = 0
      · subst h0; exact ⟨[], Txt.nil, rfl⟩
      · obtain ⟨q, k1, k2, k3⟩ := h.occ s (by omega) hs
        have hqc : q % fst.length < fst.length := Nat.mod_lt _ hM
        obtain ⟨t, t1, t2⟩ := ih (q / fst.length) k3 (Nat.lt_trans k3 hs)
        refine ⟨t ++ [gN fst (q % fst.length)], t1.snoc (hc.fstlt _ hqc), ?_⟩
        rw [DF.run_snoc, t2]
        show gN NX (q / fst.length * fst.length + gN col (gN fst (q % fst.length))) = s
        rw [hc.numfst _ hqc, Nat.mul_comm, Nat.div_add_mod]
        exact k2
  · have hs2 : s < St.length := hs
    have hc2 : c < fst.length := hc'
    have hq : s * fst.length + c < NX.length := by rw [hlen]; exact at_lt hs2 hc2
    obtain ⟨q', k1, k2⟩ := h.fo _ hq v h0 hv
    have hqc : q' % fst.length < fst.length := Nat.mod_lt _ hM
    refine ⟨q' / fst.length, q' % fst.length, (Nat.div_lt_iff_lt_mul hM).2 (show q' < St.length * fst.length by omega), hqc, ?_, ?_⟩
    · obtain ⟨e1, e2⟩ := div_at (i := s) hc2
      have h1 := Nat.div_le_div_right (c := fst.length) (Nat.le_of_lt k1)
      rw [e1] at h1
      rcases Nat.lt_or_ge (q' / fst.length) s with h2 | h2
      · exact .inl h2
      · have h3 : q' / fst.length = s := by omega
        refine .inr ⟨h3, ?_⟩
        have h4 := Nat.div_add_mod q' fst.length
        rw [h3, Nat.mul_comm] at h4
        omega
    · show gN NX (q' / fst.length * fst.length + q' % fst.length) = v
      rw [Nat.mul_comm, Nat.div_add_mod]
      exact k2
  · have := (hrun t ht 0 h.s0.1).2
    unfold DF.lab
    show D.ou (gN St _) = _
    rw [this, h.s0.2]
end
end Go.Proofs.YtdgoilkgplnhfaaGreat
