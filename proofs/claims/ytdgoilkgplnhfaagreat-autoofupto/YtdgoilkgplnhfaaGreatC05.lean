/-
  Several rows of numbers, each in a block of its own. Of the program its types alone: no condition.
-/
import Derived.Test.YtdgoilkgplnhfaaGreatC04
namespace Go.Proofs.YtdgoilkgplnhfaaGreat
open Go.RowKit Go.Lib
abbrev RN := Value × List Nat
structure Rws (w : World) (base : Nat) (R : List RN) : Prop where
 own : ∀ j (h : j < R.length), OwnN w base (R[j]).1 (R[j]).2
 ap : ∀ j (h : j < R.length) k (h' : k < R.length), j ≠ k → ∀ b, (R[j]).1.ownBlock = some b → ¬ (R[k]).1.ownBlock = some b
section
variable {w w' : World} {base : Nat} {R : List RN}
theorem Rws.below (h : Rws w base R) (x : Below w.heap.size w w') : Rws w' base R := ⟨fun j hj => own_below (h.own j hj) x, h.ap⟩
theorem Rws.kept {F : Nat → Prop} (h : Rws w base R) (x : Kept F w w') (hF : ∀ j (h : j < R.length) b, (R[j]).1.ownBlock = some b → ¬ F b) : Rws w' base R := ⟨fun j hj => own_kept (h.own j hj) x (hF j hj), h.ap⟩
theorem Rws.upd {F : Nat → Prop} (h : Rws w base R) {i : Nat} (hi : i < R.length) {v' : Value} {L' : List Nat} (h1 : OwnN w' base v' L') (hk : Kept F w w') (hF : ∀ b, F b → (R[i]).1.ownBlock = some b) (hv : ∀ b, v'.ownBlock = some b → (R[i]).1.ownBlock = some b ∨ w.heap.size ≤ b) : Rws w' base (R.set i (v', L')) := by
 refine ⟨fun j hj => ?_, fun j hj k hk' hne b hb hb2 => ?_⟩
 · rw [List.length_set] at hj
   by_cases hji : i = j
   · subst hji
     rw [List.getElem_set_self]
     exact h1
   · rw [List.getElem_set_ne hji]
     exact own_kept (h.own j hj) hk (fun b hb hf => h.ap j hj i hi (fun e => hji e.symm) b hb (hF b hf))
 · rw [List.length_set] at hj hk'
   have hlt : ∀ m (hm : m < R.length) b, (R[m]).1.ownBlock = some b → b < w.heap.size := fun m hm b hb => (World.ownsRow.lt (show w.ownsRow base 3 1 (R[m]).1 _ (nCells _) from h.own m hm) b hb).2
   by_cases hji : i = j
   · subst hji
     rw [List.getElem_set_self] at hb
     rw [List.getElem_set_ne hne] at hb2
     rcases hv b hb with h3 | h3
     · exact h.ap i hi k hk' hne b h3 hb2
     · have := hlt k hk' b hb2; omega
   · rw [List.getElem_set_ne hji] at hb
     by_cases hki : i = k
     · subst hki
       rw [List.getElem_set_self] at hb2
       rcases hv b hb2 with h3 | h3
       · exact h.ap j hj i hi hne b hb h3
       · have := hlt j hj b hb; omega
     · rw [List.getElem_set_ne hki] at hb2
       exact h.ap j hj k hk' hne b hb hb2
theorem Rws.app (h : Rws w base R) {i : Nat} (hi : i < R.length) {v' : Value} {x : Nat} {L : List Nat} (h1 : w'.ownsRow base 3 1 v' (L.length + 1) (nCells L ++ [.int .i64 (x : Int)])) (h2 : AppAt w w' (R[i]).1 v') : Rws w' base (R.set i (v', L ++ [x])) := by
 have o : OwnN w' base v' (L ++ [x]) := by
  unfold OwnN
  rw [nCells_snoc, List.length_append, List.length_singleton]
  exact h1
 rcases h2 with ⟨q, a, b, c⟩ | ⟨a, b⟩
 · exact h.upd hi o (kept_of_grown c) (fun k hk => a.trans hk) (fun k hk => .inl (by rw [a, ← b]; exact hk))
 · exact h.upd (F := fun _ => False) hi o (Kept.of_below (below_of_grown a)) (fun k hk => hk.elim) (fun k hk => .inr (b k hk))
theorem Rws.store (h : Rws w base R) {i : Nat} (hi : i < R.length) {g n cap : Nat} {L : List Nat} (hR : R[i] = (.slice (some ⟨g, 0, none⟩) n cap, L)) (k x : Nat) : Rws (w.setCell ⟨g, k, none⟩ (.int .i64 (x : Int))) base (R.set i (.slice (some ⟨g, 0, none⟩) n cap, L.set k x)) := by
 have ho := h.own i hi
 rw [hR] at ho
 obtain ⟨o1, k1⟩ := ho.store k x
 exact h.upd hi o1 k1 (fun b hb => by rw [hR, hb]; rfl) (fun b hb => .inl (by rw [hR]; exact hb))
theorem Rws.cons (h : Rws w base R) (x : Below w.heap.size w w') {v : Value} {L : List Nat} (ho : OwnN w' base v L) (hb : ∀ b, v.ownBlock = some b → w.heap.size ≤ b) : Rws w' base (R ++ [(v, L)]) := by
 have h' := h.below x
 have hlt : ∀ m (hm : m < R.length) b, (R[m]).1.ownBlock = some b → b < w.heap.size := fun m hm b hb => (World.ownsRow.lt (show w.ownsRow base 3 1 (R[m]).1 _ (nCells _) from h.own m hm) b hb).2
 refine ⟨fun j hj => ?_, fun j hj k hk hne b h1 h2 => ?_⟩
 · by_cases hjl : j < R.length
   · rw [List.getElem_append_left hjl]; exact h'.own j hjl
   · have : j = R.length := by rw [List.length_append, List.length_singleton] at hj; omega
     subst this
     rw [List.getElem_append_right (Nat.le_refl _)]
     simpa using ho
 · by_cases hjl : j < R.length
   · rw [List.getElem_append_left hjl] at h1
     by_cases hkl : k < R.length
     · rw [List.getElem_append_left hkl] at h2; exact h.ap j hjl k hkl hne b h1 h2
     · have : k = R.length := by rw [List.length_append, List.length_singleton] at hk; omega
       subst this
       rw [List.getElem_append_right (Nat.le_refl _)] at h2
       have := hlt j hjl b h1
       have := hb b (by simpa using h2)
       omega
   · have : j = R.length := by rw [List.length_append, List.length_singleton] at hj; omega
     subst this
     rw [List.getElem_append_right (Nat.le_refl _)] at h1
     have hkl : k < R.length := by rw [List.length_append, List.length_singleton] at hk; omega
     rw [List.getElem_append_left hkl] at h2
     have := hlt k hkl b h2
     have := hb b (by simpa using h1)
     omega
theorem Rws.nil (w : World) (base : Nat) : Rws w base [] := ⟨fun j hj => (by cases hj), fun j hj => (by cases hj)⟩
end
def OwnB (w : World) (base : Nat) (v : Value) (L : List Bool) : Prop := w.ownsRow base 4 1 v L.length (L.map Value.bool)
theorem made_falses (n : Nat) : (madeCells (Value.bool false).cells (n * 1)).toList = (List.replicate n false).map Value.bool := by
 simp only [madeCells, Value.cells, List.map_replicate, Nat.mul_one]
 rw [List.eq_replicate_iff]
 refine ⟨by simp, fun b hb => ?_⟩
 simp only [Array.toList_map, List.mem_map] at hb
 obtain ⟨x, _, rfl⟩ := hb
 simp [Nat.mod_one]
theorem Tryz.info4n : (Tryz.prog.info? 4).map (fun i => (i.zero, i.size, i.bytes)) = some (some (.bool false), 1, 1) := by kernel_rfl
theorem OwnB.len {w : World} {base g cap n : Nat} {L : List Bool} (h : OwnB w base (.slice (some ⟨g, 0, none⟩) n cap) L) : n = L.length := by
 have hh : w.ownsRow base 4 1 (.slice (some ⟨g, 0, none⟩) n cap) L.length (L.map Value.bool) := h
 rcases hh.2 with ⟨e, e2⟩ | ⟨g', c', cur, e, _⟩
 · cases e
 · injection e with _ e2 _
theorem OwnB.cell {w : World} {base g cap n : Nat} {L : List Bool} (h : OwnB w base (.slice (some ⟨g, 0, none⟩) n cap) L) {i : Nat} (hi : i < L.length) : w.cell? ⟨g, i, none⟩ = some (.bool L[i]) ∧ w.frozen? ⟨g, i, none⟩ = false := by
 obtain rfl := h.len
 have hh : w.ownsRow base 4 1 (.slice (some ⟨g, 0, none⟩) L.length cap) L.length (L.map Value.bool) := h
 exact ⟨by rw [hh.cellAt i (by omega)]; simp [hi], hh.frozenAt _⟩
theorem OwnB.store {w : World} {base g cap n : Nat} {L : List Bool} (h : OwnB w base (.slice (some ⟨g, 0, none⟩) n cap) L) (i : Nat) (x : Bool) : OwnB (w.setCell ⟨g, i, none⟩ (.bool x)) base (.slice (some ⟨g, 0, none⟩) n cap) (L.set i x) ∧ Kept (fun k => k = g) w (w.setCell ⟨g, i, none⟩ (.bool x)) := by
 obtain rfl := h.len
 have hh : w.ownsRow base 4 1 (.slice (some ⟨g, 0, none⟩) L.length cap) L.length (L.map Value.bool) := h
 obtain ⟨h1, h2⟩ := hh.stored i (.bool x)
 refine ⟨?_, (kept_of_grown h2).mono (fun k hk => by injection hk with hk; exact hk.symm)⟩
 unfold OwnB
 rw [List.length_set, List.map_set]
 exact h1
theorem OwnN.slot {w : World} {base g cap n : Nat} {L : List Nat} (h : OwnN w base (.slice (some ⟨g, 0, none⟩) n cap) L) {i : Nat} (hi : i < L.length) : w.cell? ⟨g, i, none⟩ = some (.int .i64 (L[i] : Int)) ∧ w.frozen? ⟨g, i, none⟩ = false := by
 refine ⟨h.cell hi, ?_⟩
 have hh : w.ownsRow base 3 1 (.slice (some ⟨g, 0, none⟩) n cap) L.length (nCells L) := h
 have hn : n = L.length := by
  rcases hh.2 with ⟨e, e2⟩ | ⟨g', c', cur, e, _⟩
  · cases e
  · injection e with _ e2 _
 subst hn
 exact hh.frozenAt _
end Go.Proofs.YtdgoilkgplnhfaaGreat
namespace Go.Proofs.YtdgoilkgplnhfaaGreat
structure HopS (D : DF) (k m : Nat) (f : Nat → Nat) : Prop where
 lt : ∀ s, s < D.n → f s < m
 co : ∀ s, s < D.n → ∀ t, t < D.n → D.Eqv s t → f s = f t
 ou : ∀ s, s < D.n → ∀ t, t < D.n → f s = f t → D.ou s = D.ou t
 hop : ∀ s, s < D.n → ∀ t, t < D.n → f s = f t → ∀ c, c < D.W → f (D.nx s c) = f (D.nx t c) ∨ k ≤ f (D.nx s c) ∨ k ≤ f (D.nx t c)
structure SplS (D : DF) (k m0 : Nat) (f0 : Nat → Nat) (C m : Nat) (f : Nat → Nat) : Prop where
 lt : ∀ s, s < D.n → f s < m
 mle : m0 ≤ m
 re : ∀ s, s < D.n → ∀ t, t < D.n → f s = f t → f0 s = f0 t
 st : ∀ c, c < C → ∀ s, s < D.n → ∀ t, t < D.n → f s = f t → (f0 (D.nx s c) = k ↔ f0 (D.nx t c) = k)
 kp : ∀ s, s < D.n → f s = f0 s ∨ m0 ≤ f s
 co : ∀ s, s < D.n → ∀ t, t < D.n → D.Eqv s t → f s = f t
section
variable {D : DF} {k m m0 C : Nat} {f f0 : Nat → Nat}
theorem SplS.start (h : HopS D k m f) : SplS D k m f 0 m f :=
 ⟨h.lt, Nat.le_refl _, fun _ _ _ _ e => e, fun c hc => by omega, fun _ _ => .inl rfl, h.co⟩
theorem SplS.next (hD : D.Pre) (h0 : HopS D k m0 f0) (h : SplS D k m0 f0 C m f) (hC : C < D.W) {m' : Nat} {f' : Nat → Nat} (hm : m ≤ m') (hlt : ∀ s, s < D.n → f' s < m') (hk : ∀ s, s < D.n → f' s = f s ∨ m ≤ f' s)
 (he : ∀ s, s < D.n → ∀ t, t < D.n → (f' s = f' t ↔ f s = f t ∧ (f0 (D.nx s C) = k ↔ f0 (D.nx t C) = k))) : SplS D k m0 f0 (C + 1) m' f' := by
 have ok := hD.toOk
 refine ⟨hlt, Nat.le_trans h.mle hm, fun s hs t ht e => h.re s hs t ht ((he s hs t ht).1 e).1, fun c hc s hs t ht e => ?_, fun s hs => ?_, fun s hs t ht e => ?_⟩
 · obtain ⟨e1, e2⟩ := (he s hs t ht).1 e
   by_cases h2 : c < C
   · exact h.st c h2 s hs t ht e1
   · have : c = C := by omega
     subst this
     exact e2
 · have := h.mle
   rcases hk s hs with h1 | h1
   · rcases h.kp s hs with h2 | h2
     · exact .inl (h1.trans h2)
     · exact .inr (by omega)
   · exact .inr (by omega)
 · obtain ⟨b, hb, rfl⟩ := hD.cols C hC
   have e2 := h0.co _ (ok.nx s hs _ (ok.bc b hb)) _ (ok.nx t ht _ (ok.bc b hb)) (e.step hb)
   exact (he s hs t ht).2 ⟨h.co s hs t ht e, by rw [e2]⟩
theorem HopS.next (hD : D.Ok) (h0 : HopS D k m0 f0) (hk : k < m0) (h : SplS D k m0 f0 D.W m f) : HopS D (k + 1) m f := by
 refine ⟨h.lt, h.co, fun s hs t ht e => h0.ou s hs t ht (h.re s hs t ht e), fun s hs t ht e c hc => ?_⟩
 have hx := hD.nx s hs c hc
 have hy := hD.nx t ht c hc
 have e1 := h0.hop s hs t ht (h.re s hs t ht e) c hc
 have e2 := h.st c hc s hs t ht e
 generalize D.nx s c = x at *
 generalize D.nx t c = y at *
 rcases h.kp x hx with p1 | p1
 · rcases h.kp y hy with p2 | p2
   · rw [p1, p2]
     omega
   · exact .inr (.inr (by omega))
 · exact .inr (.inl (by omega))
theorem HopS.same (hD : D.Ok) (hs : ∀ s, s < D.n → ∀ t, t < D.n → f s = f t → D.ou s = D.ou t) (hn : ∀ s, s < D.n → ∀ t, t < D.n → f s = f t → ∀ c, c < D.W → f (D.nx s c) = f (D.nx t c)) : ∀ {u : List Nat} {s t : Nat}, s < D.n → t < D.n → f s = f t → Txt u → D.lab s u = D.lab t u
 | [], s, t, h1, h2, e, _ => hs s h1 t h2 e
 | b :: u, s, t, h1, h2, e, hu => by
   have hb := hu.tail.1
   have := HopS.same hD hs hn (hD.step h1 hb) (hD.step h2 hb) (hn s h1 t h2 e _ (hD.bc b hb)) hu.tail.2
   exact this
theorem HopS.done (hD : D.Ok) (h : HopS D m m f) : ∀ s, s < D.n → ∀ t, t < D.n → (f s = f t ↔ D.Eqv s t) := fun s hs t ht =>
 ⟨fun e u hu => HopS.same hD h.ou (fun s hs t ht e c hc => by
   have := h.hop s hs t ht e c hc
   have := h.lt _ (hD.nx s hs c hc)
   have := h.lt _ (hD.nx t ht c hc)
   omega) hs ht e hu, h.co s hs t ht⟩
theorem HopS.alone (h : HopS D k m f) (hi : ∀ s, s < D.n → ∀ t, t < D.n → f s = f t → s = t) : ∀ s, s < D.n → ∀ t, t < D.n → (f s = f t ↔ D.Eqv s t) := fun s hs t ht =>
 ⟨fun e => by rw [hi s hs t ht e]; exact DF.Eqv.refl _ _, h.co s hs t ht⟩
end
def Many (D : DF) (N : Nat) : Prop := ∃ g : Nat → Nat, (∀ i, i < N → g i < D.n) ∧ ∀ i, i < N → ∀ j, j < N → D.Eqv (g i) (g j) → i = j
theorem HopS.many {D : DF} {k m : Nat} {f : Nat → Nat} (h : HopS D k m f) (hne : ∀ r, r < m → ∃ s, s < D.n ∧ f s = r) : Many D m := by
 have hc : ∀ r, ∃ s, r < m → s < D.n ∧ f s = r := fun r => by
  by_cases hr : r < m
  · obtain ⟨s, hs⟩ := hne r hr
    exact ⟨s, fun _ => hs⟩
  · exact ⟨0, fun h => absurd h hr⟩
 refine ⟨fun r => (hc r).choose, fun i hi => ((hc i).choose_spec hi).1, fun i hi j hj e => ?_⟩
 have h1 := (hc i).choose_spec hi
 have h2 := (hc j).choose_spec hj
 have := h.co _ h1.1 _ h2.1 e
 rw [h1.2, h2.2] at this
 exact this
theorem pigeon : ∀ (M N : Nat) (g : Nat → Nat), (∀ i, i < N → g i < M) → (∀ i, i < N → ∀ j, j < N → g i = g j → i = j) → N ≤ M
 | _, 0, _, _, _ => Nat.zero_le _
 | 0, N + 1, g, h, _ => absurd (h 0 (by omega)) (by omega)
 | M + 1, N + 1, g, h, hi => by
   have := pigeon M N (fun i => if g i = M then g N else g i) (fun i hi' => by
    have h1 := h i (by omega)
    have h2 := h N (by omega)
    by_cases e : g i = M
    · rw [if_pos e]
      have : ¬ g N = M := fun e2 => by have := hi i (by omega) N (by omega) (by omega); omega
      omega
    · rw [if_neg e]; omega) (fun i hi' j hj e => by
    have hij := hi i (by omega) j (by omega)
    have hiN := hi i (by omega) N (by omega)
    have hjN := hi j (by omega) N (by omega)
    by_cases e1 : g i = M
    · by_cases e2 : g j = M
      · exact hij (by omega)
      · rw [if_pos e1, if_neg e2] at e; omega
    · by_cases e2 : g j = M
      · rw [if_neg e1, if_pos e2] at e; omega
      · rw [if_neg e1, if_neg e2] at e; exact hij e)
   omega
theorem Many.le {D E : DF} {N : Nat} (hD : Many D N) (hr : ∀ s, s < D.n → ∃ t, Txt t ∧ D.run 0 t = s) (hE : E.Ok) (hl : ∀ t, Txt t → D.lab 0 t = E.lab 0 t) : N ≤ E.n := by
 obtain ⟨g, h1, h2⟩ := hD
 have hc : ∀ i, ∃ s', i < N → s' < E.n ∧ ∀ u, Txt u → E.lab s' u = D.lab (g i) u := fun i => by
  by_cases hi : i < N
  · obtain ⟨t, k1, k2⟩ := hr (g i) (h1 i hi)
    refine ⟨E.run 0 t, fun _ => ⟨hE.run hE.n0 k1, fun u hu => ?_⟩⟩
    have := hl (t ++ u) (k1.app hu)
    unfold DF.lab at this ⊢
    rw [DF.run_app, DF.run_app, k2] at this
    exact this.symm
  · exact ⟨0, fun h => absurd h hi⟩
 refine pigeon E.n N (fun i => (hc i).choose) (fun i hi => ((hc i).choose_spec hi).1) (fun i hi j hj e => h2 i hi j hj (fun u hu => ?_))
 have e' : (hc i).choose = (hc j).choose := e
 rw [← ((hc i).choose_spec hi).2 u hu, ← ((hc j).choose_spec hj).2 u hu, e']
structure RcS (D : DF) (fst St NX : List Nat) (i j : Nat) : Prop where
 s0 : 0 < St.length ∧ gN St 0 = 0
 nd : ∀ a, a < St.length → ∀ b, b < St.length → gN St a = gN St b → a = b
 lt : ∀ a, a < St.length → gN St a < D.n
 len : NX.length = i * fst.length + j
 jl : j ≤ fst.length
 il : i ≤ St.length
 nxt : ∀ q, q < NX.length → gN NX q < St.length ∧ gN St (gN NX q) = D.step (gN St (q / fst.length)) (gN fst (q % fst.length))
 occ : ∀ v, 0 < v → v < St.length → ∃ q, q < NX.length ∧ gN NX q = v ∧ q / fst.length < v
 fo : ∀ q, q < NX.length → ∀ v, 0 < v → v < gN NX q → ∃ q', q' < q ∧ gN NX q' = v
section
variable {D : DF} {fst St NX : List Nat} {i j : Nat}
theorem RcS.start (hn : 0 < D.n) : RcS D fst [0] [] 0 0 := by
 refine ⟨⟨by simp, rfl⟩, fun a ha b hb _ => by simp at ha hb; omega, fun a ha => ?_, by simp, by omega, by omega, fun q hq => by simp at hq, fun v h0 hv => by simp at hv; omega, fun q hq => by simp at hq⟩
 have : a = 0 := by simp at ha; omega
 subst this
 exact hn
theorem div_at {i j M : Nat} (h : j < M) : (i * M + j) / M = i ∧ (i * M + j) % M = j := by
 have h0 : 0 < M := by omega
 rw [Nat.mul_comm]
 exact ⟨by rw [Nat.mul_add_div h0, Nat.div_eq_of_lt h, Nat.add_zero], by rw [Nat.mul_add_mod, Nat.mod_eq_of_lt h]⟩
theorem RcS.old (h : RcS D fst St NX i j) (hj : j < fst.length) {v : Nat} (hv : v < St.length) (he : gN St v = D.step (gN St i) (gN fst j)) : RcS D fst St (NX ++ [v]) i (j + 1) := by
 have hl : (NX ++ [v]).length = NX.length + 1 := by simp
 have hd := div_at (i := i) hj
 rw [← h.len] at hd
 refine ⟨h.s0, h.nd, h.lt, by rw [hl, h.len]; omega, hj, h.il, fun q hq => ?_, fun x h0 hx => ?_, fun q hq x h0 hx => ?_⟩
 · by_cases h2 : q < NX.length
   · rw [gN_left h2]; exact h.nxt q h2
   · obtain rfl : q = NX.length := by omega
     rw [gN_last, hd.1, hd.2]; exact ⟨hv, he⟩
 · obtain ⟨q, h1, h2, h3⟩ := h.occ x h0 hx
   exact ⟨q, by omega, by rw [gN_left h1]; exact h2, h3⟩
 · by_cases h2 : q < NX.length
   · rw [gN_left h2] at hx
     obtain ⟨q', k1, k2⟩ := h.fo q h2 x h0 hx
     exact ⟨q', k1, by rw [gN_left (by omega)]; exact k2⟩
   · obtain rfl : q = NX.length := by omega
     rw [gN_last] at hx
     obtain ⟨q', k1, k2, _⟩ := h.occ x h0 (by omega)
     exact ⟨q', k1, by rw [gN_left k1]; exact k2⟩
theorem RcS.new (h : RcS D fst St NX i j) (hi : i < St.length) (hj : j < fst.length) {x : Nat} (hx : x < D.n) (hne : ∀ a, a < St.length → gN St a ≠ x) (he : x = D.step (gN St i) (gN fst j)) : RcS D fst (St ++ [x]) (NX ++ [St.length]) i (j + 1) := by
 have hl : (NX ++ [St.length]).length = NX.length + 1 := by simp
 have hls : (St ++ [x]).length = St.length + 1 := by simp
 have hd := div_at (i := i) hj
 rw [← h.len] at hd
 have hrow : ∀ q, q < NX.length → q / fst.length < St.length := fun q hq => by
  have h0 : 0 < fst.length := by omega
  have : q / fst.length ≤ i := by
   have h1 : q ≤ i * fst.length + j := by have := h.len; omega
   have h2 := Nat.div_le_div_right (c := fst.length) h1
   rw [(div_at (i := i) hj).1] at h2
   exact h2
  omega
 have gl : ∀ a, a < St.length → gN (St ++ [x]) a = gN St a := fun a ha => gN_left ha
 refine ⟨⟨by omega, by rw [gl 0 h.s0.1]; exact h.s0.2⟩, fun a ha b hb e => ?_, fun a ha => ?_, by rw [hl, h.len]; omega, hj, by have := h.il; omega, fun q hq => ?_, fun v h0 hv => ?_, fun q hq v h0 hv => ?_⟩
 · by_cases h1 : a < St.length
   · by_cases h2 : b < St.length
     · rw [gl a h1, gl b h2] at e; exact h.nd a h1 b h2 e
     · obtain rfl : b = St.length := by omega
       rw [gl a h1, gN_last] at e; exact absurd e (hne a h1)
   · obtain rfl : a = St.length := by omega
     by_cases h2 : b < St.length
     · rw [gl b h2, gN_last] at e; exact absurd e.symm (hne b h2)
     · omega
 · by_cases h1 : a < St.length
   · rw [gl a h1]; exact h.lt a h1
   · obtain rfl : a = St.length := by omega
     rw [gN_last]; exact hx
 · by_cases h2 : q < NX.length
   · obtain ⟨k1, k2⟩ := h.nxt q h2
     rw [gN_left h2, gl _ k1, gl _ (hrow q h2)]
     exact ⟨by omega, k2⟩
   · obtain rfl : q = NX.length := by omega
     rw [gN_last, gN_last, hd.1, hd.2, gl i hi]
     exact ⟨by omega, he⟩
 · by_cases h2 : v < St.length
   · obtain ⟨q, k1, k2, k3⟩ := h.occ v h0 h2
     exact ⟨q, by omega, by rw [gN_left k1]; exact k2, k3⟩
   · obtain rfl : v = St.length := by omega
     exact ⟨NX.length, by omega, gN_last _ _, by rw [hd.1]; exact hi⟩
 · by_cases h2 : q < NX.length
   · rw [gN_left h2] at hv
     obtain ⟨q', k1, k2⟩ := h.fo q h2 v h0 hv
     exact ⟨q', k1, by rw [gN_left (by omega)]; exact k2⟩
   · obtain rfl : q = NX.length := by omega
     rw [gN_last] at hv
     obtain ⟨q', k1, k2, _⟩ := h.occ v h0 hv
     exact ⟨q', k1, by rw [gN_left k1]; exact k2⟩
theorem RcS.row (h : RcS D fst St NX i fst.length) (hi : i < St.length) : RcS D fst St NX (i + 1) 0 :=
 ⟨h.s0, h.nd, h.lt, by rw [h.len, Nat.succ_mul]; omega, Nat.zero_le _, hi, h.nxt, h.occ, h.fo⟩
def rcD (D : DF) (col fst St NX : List Nat) : DF := ⟨St.length, fst.length, gN col, fun s c => gN NX (s * fst.length + c), fun s => D.ou (gN St s)⟩
theorem at_lt {s c n M : Nat} (hs : s < n) (hc : c < M) : s * M + c < n * M := by
 have : (s + 1) * M ≤ n * M := Nat.mul_le_mul_right M hs
 rw [Nat.succ_mul] at this
 omega
theorem RcS.done (h : RcS D fst St NX St.length 0) {col : List Nat} (hc : NumF D.bc 256 (gN col) (gN fst) fst.length) : (rcD D col fst St NX).Pre ∧ ∀ t, Txt t → (rcD D col fst St NX).lab 0 t = D.lab 0 t := by
 have hlen : NX.length = St.length * fst.length := by have := h.len; omega
 have hM : 0 < fst.length := (hc.zero (by decide)).2
 have hst : ∀ s, s < St.length → ∀ b, b < 256 → (rcD D col fst St NX).step s b < St.length ∧ gN St ((rcD D col fst St NX).step s b) = D.step (gN St s) b := fun s hs b hb => by
  have hcl := hc.numlt b hb
  have hq : s * fst.length + gN col b < NX.length := by rw [hlen]; exact at_lt hs hcl
  obtain ⟨k1, k2⟩ := h.nxt _ hq
  obtain ⟨e1, e2⟩ := div_at (i := s) hcl
  rw [e1, e2] at k2
  refine ⟨k1, k2.trans ?_⟩
  unfold DF.step
  rw [hc.lk b hb]
 have hrun : ∀ t, Txt t → ∀ s, s < St.length → (rcD D col fst St NX).run s t < St.length ∧ gN St ((rcD D col fst St NX).run s t) = D.run (gN St s) t := by
  intro t
  induction t with
  | nil => intro _ s hs; exact ⟨hs, rfl⟩
  | cons b t ih =>
    intro ht s hs
    obtain ⟨k1, k2⟩ := hst s hs b ht.tail.1
    rw [DF.run_cons, DF.run_cons, ← k2]
    exact ih ht.tail.2 _ k1
 refine ⟨⟨⟨h.s0.1, hM, fun b hb => hc.numlt b hb, fun s hs c hc' => (h.nxt _ (by rw [hlen]; exact at_lt hs hc')).1⟩, fun s hs => ?_, fun b hb v hv => hc.occ hb hv, fun c hc' => ⟨gN fst c, hc.fstlt c hc', hc.numfst c hc'⟩, fun s hs c hc' v h0 hv => ?_⟩, fun t ht => ?_⟩
 · induction s using Nat.strongRecOn with
   | _ s ih =>
     by_cases h0 : s = 0
     · subst h0; exact ⟨[], Txt.nil, rfl⟩
     · obtain ⟨q, k1, k2, k3⟩ := h.occ s (by omega) hs
       have hqc : q % fst.length < fst.length := Nat.mod_lt _ hM
       obtain ⟨t, t1, t2⟩ := ih (q / fst.length) k3 (Nat.lt_trans k3 hs)
       refine ⟨t ++ [gN fst (q % fst.length)], t1.snoc (hc.fstlt _ hqc), ?_⟩
       rw [DF.run_snoc, t2]
       show gN NX (q / fst.length * fst.length + gN col (gN fst (q % fst.length))) = s
       rw [hc.numfst _ hqc, Nat.mul_comm, Nat.div_add_mod]
       exact k2
 · have hs2 : s < St.length := hs
   have hc2 : c < fst.length := hc'
   have hq : s * fst.length + c < NX.length := by rw [hlen]; exact at_lt hs2 hc2
   obtain ⟨q', k1, k2⟩ := h.fo _ hq v h0 hv
   have hqc : q' % fst.length < fst.length := Nat.mod_lt _ hM
   refine ⟨q' / fst.length, q' % fst.length, (Nat.div_lt_iff_lt_mul hM).2 (show q' < St.length * fst.length by omega), hqc, ?_, ?_⟩
   · obtain ⟨e1, e2⟩ := div_at (i := s) hc2
     have h1 := Nat.div_le_div_right (c := fst.length) (Nat.le_of_lt k1)
     rw [e1] at h1
     rcases Nat.lt_or_ge (q' / fst.length) s with h2 | h2
     · exact .inl h2
     · have h3 : q' / fst.length = s := by omega
       refine .inr ⟨h3, ?_⟩
       have h4 := Nat.div_add_mod q' fst.length
       rw [h3, Nat.mul_comm] at h4
       omega
   · show gN NX (q' / fst.length * fst.length + q' % fst.length) = v
     rw [Nat.mul_comm, Nat.div_add_mod]
     exact k2
 · have := (hrun t ht 0 h.s0.1).2
   unfold DF.lab
   show D.ou (gN St _) = _
   rw [this, h.s0.2]
end
structure RdT (D : DF) (l : List Nat) : Prop where
 n : ∀ s ∈ l, s < D.n
 z : 0 ∈ l
 cl : ∀ s ∈ l, ∀ b, b < 256 → D.step s b ∈ l
 re : ∀ s ∈ l, ∃ t, Txt t ∧ D.run 0 t = s
structure DpS (D : DF) (l : List Nat) (f : Nat → Nat) (m : Nat) : Prop where
 lt : ∀ s ∈ l, f s < m
 hit : ∀ r, r < m → ∃ s, s ∈ l ∧ f s = r
 eqv : ∀ s ∈ l, ∀ t ∈ l, D.Eqv s t → f s = f t
 lab : ∀ s ∈ l, ∀ t ∈ l, f s = f t → D.ou s = D.ou t
 z : f 0 = 0
theorem same_parts {l : List Nat} {f g : Nat → Nat} {m : Nat} (hf : ∀ s ∈ l, f s < m) (hg : ∀ r, r < m → ∃ s, s ∈ l ∧ g s = r) (href : ∀ s ∈ l, ∀ t ∈ l, f s = f t → g s = g t) : ∀ s ∈ l, ∀ t ∈ l, g s = g t → f s = f t := fun s hs t ht e => by
 apply Classical.byContradiction
 intro hne
 have hc : ∀ r, ∃ u, r < m → u ∈ l ∧ g u = r := fun r => by
  by_cases hr : r < m
  · obtain ⟨u, hu⟩ := hg r hr
    exact ⟨u, fun _ => hu⟩
  · exact ⟨0, fun h => absurd h hr⟩
 obtain ⟨h, hh⟩ : ∃ h : Nat → Nat, ∀ r, r < m → h r ∈ l ∧ g (h r) = r := ⟨fun r => (hc r).choose, fun r => (hc r).choose_spec⟩
 obtain ⟨x, hx, hx1, hx2⟩ : ∃ x, x ∈ l ∧ g x = g s ∧ f (h (g s)) ≠ f x := by
  by_cases h1 : f (h (g s)) = f s
  · exact ⟨t, ht, e.symm, fun h2 => hne (h1.symm.trans h2)⟩
  · exact ⟨s, hs, rfl, h1⟩
 have := pigeon m (m + 1) (fun r => if r < m then f (h r) else f x) (fun i hi => by
  by_cases h1 : i < m
  · simp only [if_pos h1]; exact hf _ (hh i h1).1
  · simp only [if_neg h1]; exact hf _ hx) (fun i hi j hj e1 => by
  have key : ∀ r, r < m → f (h r) = f x → False := fun r hr e2 => by
   have h1 := href _ (hh r hr).1 _ hx e2
   rw [(hh r hr).2, hx1] at h1
   rw [h1] at e2
   exact hx2 e2
  by_cases h1 : i < m
  · by_cases h2 : j < m
    · simp only [if_pos h1, if_pos h2] at e1
      have h3 := href _ (hh i h1).1 _ (hh j h2).1 e1
      rw [(hh i h1).2, (hh j h2).2] at h3
      exact h3
    · simp only [if_pos h1, if_neg h2] at e1
      exact (key i h1 e1).elim
  · by_cases h2 : j < m
    · simp only [if_neg h1, if_pos h2] at e1
      exact (key j h2 e1.symm).elim
    · omega)
 omega
structure SwS (D : DF) (l : List Nat) (g : Nat → Nat) (C : List Nat) (k : Nat) (f : Nat → Nat) (m : Nat) : Prop extends DpS D l f m where
 ref : ∀ s ∈ l, ∀ t ∈ l, f s = f t → g s = g t
 st : ∀ s ∈ l, ∀ t ∈ l, f s = f t → ∀ j, j < k → g (D.nx s (gN C j)) = g (D.nx t (gN C j))
section
variable {D : DF} {l C : List Nat} {f g f' : Nat → Nat} {k m m' m0 : Nat}
theorem SwS.start (h : DpS D l f m) : SwS D l f C 0 f m := ⟨h, fun _ _ _ _ e => e, fun _ _ _ _ _ j hj => by omega⟩
theorem SwS.next (hr : RdT D l) (hg : DpS D l g m0) (h : SwS D l g C k f m) (hC : ∃ b, b < 256 ∧ D.bc b = gN C k) (hlt : ∀ s ∈ l, f' s < m') (hhit : ∀ r, r < m' → ∃ s, s ∈ l ∧ f' s = r) (hz : f' 0 = 0)
 (hs : ∀ s ∈ l, ∀ t ∈ l, (f' s = f' t ↔ f s = f t ∧ g (D.nx s (gN C k)) = g (D.nx t (gN C k)))) : SwS D l g C (k + 1) f' m' := by
 obtain ⟨b, hb, eb⟩ := hC
 refine ⟨⟨hlt, hhit, fun s h1 t h2 e => (hs s h1 t h2).2 ⟨h.eqv s h1 t h2 e, ?_⟩, fun s h1 t h2 e => h.lab s h1 t h2 ((hs s h1 t h2).1 e).1, hz⟩, fun s h1 t h2 e => h.ref s h1 t h2 ((hs s h1 t h2).1 e).1, fun s h1 t h2 e j hj => ?_⟩
 · rw [← eb]
   exact hg.eqv _ (hr.cl s h1 b hb) _ (hr.cl t h2 b hb) (e.step hb)
 · obtain ⟨e1, e2⟩ := (hs s h1 t h2).1 e
   by_cases hjk : j < k
   · exact h.st s h1 t h2 e1 j hjk
   · rw [show j = k by omega]; exact e2
theorem SwS.done (hr : RdT D l) (hg : DpS D l g m) (h : SwS D l g C C.length f m) (hC : ∀ b, b < 256 → ∃ j, j < C.length ∧ ∀ s ∈ l, D.nx s (D.bc b) = D.nx s (gN C j)) : ∀ s ∈ l, ∀ t ∈ l, (f s = f t ↔ D.Eqv s t) := by
 have hsame := same_parts h.lt hg.hit h.ref
 have key : ∀ (u : List Nat) (s t : Nat), s ∈ l → t ∈ l → f s = f t → Txt u → D.lab s u = D.lab t u := by
  intro u
  induction u with
  | nil => intro s t hs ht e _; exact h.lab s hs t ht e
  | cons b u ih =>
    intro s t hs ht e hu
    obtain ⟨hb, hu⟩ := hu.tail
    show D.lab (D.step s b) u = D.lab (D.step t b) u
    refine ih _ _ (hr.cl s hs b hb) (hr.cl t ht b hb) (hsame _ (hr.cl s hs b hb) _ (hr.cl t ht b hb) ?_) hu
    obtain ⟨j, hj, ej⟩ := hC b hb
    unfold DF.step
    rw [ej s hs, ej t ht]
    exact h.st s hs t ht e j hj
 exact fun s hs t ht => ⟨fun e u hu => key u s t hs ht e hu, fun e => h.eqv s hs t ht e⟩
end
theorem none_of {D : DF} {l : List Nat} (hr : RdT D l) {N : Nat} {g : Nat → Nat} (hg : ∀ i, i < N → g i ∈ l) (hne : ∀ i, i < N → ∀ j, j < N → D.Eqv (g i) (g j) → i = j) {E : DF} (hE : E.Ok) (hl : ∀ t, Txt t → E.lab 0 t = D.lab 0 t) : N ≤ E.n := by
 have hc : ∀ i, ∃ s', i < N → s' < E.n ∧ ∀ u, Txt u → E.lab s' u = D.lab (g i) u := fun i => by
  by_cases hi : i < N
  · obtain ⟨t, k1, k2⟩ := hr.re (g i) (hg i hi)
    refine ⟨E.run 0 t, fun _ => ⟨hE.run hE.n0 k1, fun u hu => ?_⟩⟩
    have := hl (t ++ u) (k1.app hu)
    unfold DF.lab at this ⊢
    rw [DF.run_app, DF.run_app, k2] at this
    exact this
  · exact ⟨0, fun h => absurd h hi⟩
 refine pigeon E.n N (fun i => (hc i).choose) (fun i hi => ((hc i).choose_spec hi).1) (fun i hi j hj e => hne i hi j hj (fun u hu => ?_))
 have e' : (hc i).choose = (hc j).choose := e
 rw [← ((hc i).choose_spec hi).2 u hu, ← ((hc j).choose_spec hj).2 u hu, e']
structure KnS (l : List Nat) (key : Nat → Nat) (k : Nat) (PL NU : List Nat) (m : Nat) : Prop where
 a : ∀ i, i < k → gN NU (key (gN l i)) = gN PL (gN l i) + 1
 b : ∀ i, i < k → gN PL (gN l i) < m
 c : ∀ x, gN NU x ≠ 0 → ∃ i, i < k ∧ key (gN l i) = x
 d : ∀ r, r < m → ∃ i, i < k ∧ gN PL (gN l i) = r
 e : ∀ x y, gN NU x ≠ 0 → gN NU x = gN NU y → x = y
 z : 0 < k → gN PL (gN l 0) = 0
theorem gN_sT {L : List Nat} {i j v : Nat} (h : i < L.length) : gN (L.set i v) j = if j = i then v else gN L j := by
 unfold gN
 simp only [List.getD_eq_getElem?_getD, List.getElem?_set]
 by_cases e : i = j
 · subst e; simp [h]
 · rw [if_neg e, if_neg (fun h => e h.symm)]
section
variable {l PL NU : List Nat} {key : Nat → Nat} {k m : Nat}
theorem KnS.start (h : ∀ x, gN NU x = 0) : KnS l key 0 PL NU 0 := ⟨fun i hi => by omega, fun i hi => by omega, fun x hx => absurd (h x) hx, fun r hr => by omega, fun x _ hx => absurd (h x) hx, fun hk => by omega⟩
theorem KnS.old (h : KnS l key k PL NU m) (hl : gN l k < PL.length) (hk : gN NU (key (gN l k)) ≠ 0) : KnS l key (k + 1) (PL.set (gN l k) (gN NU (key (gN l k)) - 1)) NU m := by
 obtain ⟨i0, h1, h2⟩ := h.c _ hk
 have e0 := h.a i0 h1
 have b0 := h.b i0 h1
 rw [h2] at e0
 have ge : ∀ i, i < k + 1 → gN (PL.set (gN l k) (gN NU (key (gN l k)) - 1)) (gN l i) + 1 = gN NU (key (gN l i)) := fun i hi => by
  rw [gN_sT hl]
  by_cases e : gN l i = gN l k
  · rw [if_pos e, e]; omega
  · rw [if_neg e]
    have hik : i < k := by
     rcases Nat.lt_or_ge i k with h3 | h3
     · exact h3
     · exact absurd (show gN l i = gN l k by rw [show i = k by omega]) e
    exact (h.a i hik).symm
 refine ⟨fun i hi => (ge i hi).symm, fun i hi => ?_, fun x hx => ?_, fun r hr => ?_, h.e, fun _ => ?_⟩
 · have h3 := ge i hi
   by_cases hik : i < k
   · have h4 := h.a i hik
     have h5 := h.b i hik
     omega
   · rw [show i = k by omega] at h3 ⊢
     omega
 · obtain ⟨i, h3, h4⟩ := h.c x hx
   exact ⟨i, by omega, h4⟩
 · obtain ⟨i, h3, h4⟩ := h.d r hr
   refine ⟨i, by omega, ?_⟩
   have h5 := ge i (by omega)
   have h6 := h.a i h3
   omega
 · have h5 := ge 0 (by omega)
   have h6 := h.a 0 (by omega)
   have h7 := h.z (by omega)
   omega
theorem KnS.new (h : KnS l key k PL NU m) (hl : gN l k < PL.length) (hn : key (gN l k) < NU.length) (hk : gN NU (key (gN l k)) = 0) : KnS l key (k + 1) (PL.set (gN l k) m) (NU.set (key (gN l k)) (m + 1)) (m + 1) := by
 have hkey : ∀ i, i < k → key (gN l i) ≠ key (gN l k) := fun i hi e => by
  have := h.a i hi
  rw [e, hk] at this
  omega
 have hle : ∀ x, gN NU x ≤ m := fun x => by
  by_cases hx : gN NU x = 0
  · omega
  · obtain ⟨i, h1, h2⟩ := h.c x hx
    have h3 := h.a i h1
    have h4 := h.b i h1
    rw [h2] at h3
    omega
 have g1 : ∀ i, i < k → gN (PL.set (gN l k) m) (gN l i) = gN PL (gN l i) := fun i hi => by
  rw [gN_sT hl, if_neg (fun e => hkey i hi (by rw [e]))]
 have g2 : ∀ i, i < k → gN (NU.set (key (gN l k)) (m + 1)) (key (gN l i)) = gN NU (key (gN l i)) := fun i hi => by
  rw [gN_sT hn, if_neg (hkey i hi)]
 have p1 : gN (PL.set (gN l k) m) (gN l k) = m := by rw [gN_sT hl, if_pos rfl]
 have p2 : gN (NU.set (key (gN l k)) (m + 1)) (key (gN l k)) = m + 1 := by rw [gN_sT hn, if_pos rfl]
 refine ⟨fun i hi => ?_, fun i hi => ?_, fun x hx => ?_, fun r hr => ?_, fun x y hx e => ?_, fun _ => ?_⟩
 · by_cases hik : i < k
   · rw [g1 i hik, g2 i hik]; exact h.a i hik
   · rw [show i = k by omega, p1, p2]
 · by_cases hik : i < k
   · rw [g1 i hik]; have := h.b i hik; omega
   · rw [show i = k by omega, p1]; omega
 · by_cases hxk : x = key (gN l k)
   · exact ⟨k, by omega, hxk.symm⟩
   · rw [gN_sT hn, if_neg hxk] at hx
     obtain ⟨i, h1, h2⟩ := h.c x hx
     exact ⟨i, by omega, h2⟩
 · by_cases hrm : r < m
   · obtain ⟨i, h1, h2⟩ := h.d r hrm
     exact ⟨i, by omega, by rw [g1 i h1]; exact h2⟩
   · exact ⟨k, by omega, by rw [p1]; omega⟩
 · rw [gN_sT hn, gN_sT hn] at e
   rw [gN_sT hn] at hx
   have hx1 := hle x
   have hy1 := hle y
   by_cases h1 : x = key (gN l k)
   · by_cases h2 : y = key (gN l k)
     · rw [h1, h2]
     · rw [if_pos h1, if_neg h2] at e; omega
   · by_cases h2 : y = key (gN l k)
     · rw [if_neg h1, if_pos h2] at e; omega
     · rw [if_neg h1, if_neg h2] at e
       rw [if_neg h1] at hx
       exact h.e x y hx e
 · by_cases hk0 : k = 0
   · subst hk0
     rw [p1]
     apply Classical.byContradiction
     intro hm
     obtain ⟨i, hi, _⟩ := h.d 0 (by omega)
     omega
   · rw [g1 0 (by omega)]; exact h.z (by omega)
theorem KnS.same (h : KnS l key k PL NU m) {i j : Nat} (hi : i < k) (hj : j < k) : gN PL (gN l i) = gN PL (gN l j) ↔ key (gN l i) = key (gN l j) := by
 have h1 := h.a i hi
 have h2 := h.a j hj
 refine ⟨fun e => h.e _ _ (by omega) (by omega), fun e => ?_⟩
 rw [e] at h1
 omega
theorem KnS.apart (h : KnS l key k PL NU m) (hk : k ≤ l.length) {D : DF} (hq : ∀ s ∈ l, ∀ t ∈ l, D.Eqv s t → key s = key t) : ∃ g : Nat → Nat, (∀ i, i < m → g i ∈ l) ∧ ∀ i, i < m → ∀ j, j < m → D.Eqv (g i) (g j) → i = j := by
 have hc : ∀ r, ∃ i, r < m → i < k ∧ gN PL (gN l i) = r := fun r => by
  by_cases hr : r < m
  · obtain ⟨i, hi⟩ := h.d r hr
    exact ⟨i, fun _ => hi⟩
  · exact ⟨0, fun h => absurd h hr⟩
 have mem : ∀ i, i < k → gN l i ∈ l := fun i hi => by rw [gN_lt (by omega)]; exact List.getElem_mem _
 refine ⟨fun r => gN l (hc r).choose, fun i hi => mem _ ((hc i).choose_spec hi).1, fun i hi j hj e => ?_⟩
 have h1 := (hc i).choose_spec hi
 have h2 := (hc j).choose_spec hj
 have := (h.same h1.1 h2.1).2 (hq _ (mem _ h1.1) _ (mem _ h2.1) e)
 rw [h1.2, h2.2] at this
 exact this
theorem mem_gN {l : List Nat} {s : Nat} (h : s ∈ l) : ∃ i, i < l.length ∧ gN l i = s := by
 obtain ⟨i, hi, e⟩ := List.getElem_of_mem h
 exact ⟨i, hi, by rw [gN_lt hi]; exact e⟩
end
end Go.Proofs.YtdgoilkgplnhfaaGreat
