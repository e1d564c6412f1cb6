/-
  States met, in memory: a map from states to places, a row of states, a row of places. Of the program its types alone: no condition.
-/
import Derived.Test.YtdgoilkgplnhfaaGreatB41
import Derived.Test.YtdgoilkgplnhfaaGreatB40
namespace Go.Proofs.YtdgoilkgplnhfaaGreat
open Go.RowKit Go.Lib Go.Maps

/-- The cells of some states. -/
def oC {S : Type} (val : S → Array Value) (St : List S) : List Value := St.flatMap fun s => (val s).toList
section
variable {S : Type} {val : S → Array Value}
theorem oC_snoc (St : List S) (x : S) : oC val (St ++ [x]) = oC val St ++ (val x).toList := by simp [oC]
theorem oC_get {K : Nat} : ∀ (St : List S), (∀ s ∈ St, (val s).size = K) → ∀ i (h : i < St.length) j (_ : j < K), (oC val St)[i * K + j]? = (val St[i])[j]?
  | [], _, i, h, _, _ => by simp at h
  | s :: St, hs, 0, _, j, hj => by
    have h0 := hs s List.mem_cons_self
    unfold oC
    rw [List.flatMap_cons, Nat.zero_mul, Nat.zero_add, List.getElem?_append_left (by rw [Array.length_toList, h0]; exact hj)]
    simp
  | s :: St, hs, i + 1, h, j, hj => by
    have h0 := hs s List.mem_cons_self
    have ih := oC_get St (fun t ht => hs t (List.mem_cons_of_mem _ ht)) i (by simp at h; omega) j hj
    unfold oC at ih ⊢
    rw [List.flatMap_cons, Nat.succ_mul, List.getElem?_append_right (by rw [Array.length_toList, h0]; omega), Array.length_toList, h0, show i * K + K + j - K = i * K + j by omega, ih]
    rfl
theorem oC_len {K : Nat} : ∀ (St : List S), (∀ s ∈ St, (val s).size = K) → (oC val St).length = St.length * K
  | [], _ => by simp [oC]
  | s :: St, hs => by
    have ih := oC_len St (fun t ht => hs t (List.mem_cons_of_mem _ ht))
    unfold oC at ih ⊢
    rw [List.flatMap_cons, List.length_append, ih, Array.length_toList, hs s List.mem_cons_self, List.length_cons, Nat.succ_mul]
    omega
/-- What lies in memory. -/
structure XM (T K : Nat) {S : Type} (val : S → Array Value) (w0 : World) (mb : Nat) (ks : List Lit) (sv xv : Value) (St : List S) (NX : List Nat) (w : World) : Prop where
  map : MpAt T w mb ks
  o1 : w.ownsRow w0.heap.size T K sv St.length (oC val St)
  o2 : OwnN w w0.heap.size xv NX
  ap : ∀ b, sv.ownBlock = some b → ¬ xv.ownBlock = some b
  mge : w0.heap.size ≤ mb
  bel : Below w0.heap.size w0 w
variable {T K : Nat} {w0 w w' : World} {mb : Nat} {ks : List Lit} {sv xv v' : Value} {St : List S} {NX : List Nat}
theorem XM.below (h : XM T K val w0 mb ks sv xv St NX w) (x : Below w.heap.size w w') : XM T K val w0 mb ks sv xv St NX w' :=
  ⟨h.map.below x, own_below h.o1 x, own_below h.o2 x, h.ap, h.mge, bt h.bel x (Nat.le_refl _)⟩
theorem XM.put (h : XM T K val w0 mb ks sv xv St NX w) {kl : Lit} {D : DataW Unit} (hm : kl ∉ ks) (hk : WideAt.IsKeyLit kl) (hh : ∀ kl, Maps.has D kl = true ↔ kl ∈ ks) (ha : ∀ i (h : i < ks.length), D.atKey ks[i] (.lit (.int .i64 0)) = .lit (.int .i64 (i : Int)))
    (ho : w.ownsMap Tryz.prog T (plainElem Tryz.prog 3) mb ks.length D) (h1 : w'.ownsMap Tryz.prog T (plainElem Tryz.prog 3) mb (ks.length + 1) (D.put kl (.lit (.int .i64 (ks.length : Int))))) (t4 : w.mapTurned w' mb) : XM T K val w0 mb (ks ++ [kl]) sv xv St NX w' := by
  have k4 : Kept (fun b => b = mb) w w' := (kept_of_grown t4.grown).mono (fun b hb => by injection hb with hb; exact hb.symm)
  exact ⟨MpAt.put hk hm ho.isMap hh ha h1, own_kept h.o1 k4 (fun b hb e => own_ne_map h.map h.o1 (by rw [← e]; exact hb)), own_kept h.o2 k4 (fun b hb e => own_ne_map h.map h.o2 (by rw [← e]; exact hb)), h.ap, h.mge, h.bel.trans (k4.below h.bel.size (fun i hi => by have := h.mge; omega))⟩
theorem app_keptX {w w6 : World} {v v' : Value} (g2 : AppAt w w6 v v') : ∃ F : Nat → Prop, Kept F w w6 ∧ (∀ b, F b → v.ownBlock = some b) := by
  rcases g2 with ⟨q, a, b, c⟩ | ⟨a, b⟩
  · exact ⟨fun b => some q = some b, kept_of_grown c, fun b hb => a.trans hb⟩
  · exact ⟨fun _ => False, Kept.of_below (below_of_grown a), fun b hb => hb.elim⟩
theorem app_apart {w w6 : World} {v v' u : Value} {base e size n : Nat} {xs : List Value} (g2 : AppAt w w6 v v') (hu : w.ownsRow base e size u n xs) (hap : ∀ b, v.ownBlock = some b → ¬ u.ownBlock = some b) : ∀ b, v'.ownBlock = some b → ¬ u.ownBlock = some b := fun b hb hv => by
  rcases g2 with ⟨q, a, c, _⟩ | ⟨_, c⟩
  · exact hap b (by rw [a, ← c]; exact hb) hv
  · have h1 := c b hb
    have h2 := (World.ownsRow.lt hu b hv).2
    omega
theorem XM.appS (h : XM T K val w0 mb ks sv xv St NX w) (x : S) (g1 : w'.ownsRow w0.heap.size T K v' (St.length + 1) (oC val St ++ (val x).toList)) (g2 : AppAt w w' sv v') : XM T K val w0 mb ks v' xv (St ++ [x]) NX w' := by
  obtain ⟨F, k6, hF⟩ := app_keptX g2
  refine ⟨h.map.kept k6 (fun hf => own_ne_map h.map h.o1 (hF _ hf)), ?_, own_kept h.o2 k6 (fun b hb hf => h.ap b (hF b hf) hb), app_apart g2 h.o2 h.ap, h.mge, h.bel.trans (k6.below h.bel.size (fun i hf => (World.ownsRow.lt h.o1 i (hF i hf)).1))⟩
  rw [oC_snoc, List.length_append, List.length_singleton]
  exact g1
theorem XM.appX (h : XM T K val w0 mb ks sv xv St NX w) (n : Nat) (g1 : w'.ownsRow w0.heap.size 3 1 v' (NX.length + 1) (nCells NX ++ [.int .i64 (n : Nat)])) (g2 : AppAt w w' xv v') : XM T K val w0 mb ks sv v' St (NX ++ [n]) w' := by
  obtain ⟨F, k6, hF⟩ := app_keptX g2
  have o2 : w.ownsRow w0.heap.size 3 1 xv NX.length (nCells NX) := h.o2
  refine ⟨h.map.kept k6 (fun hf => own_ne_map h.map o2 (hF _ hf)), own_kept h.o1 k6 (fun b hb hf => h.ap b hb (hF b hf)), ?_, fun b hb hv => app_apart g2 h.o1 (fun b hb hv => h.ap b hv hb) b hv hb, h.mge, h.bel.trans (k6.below h.bel.size (fun i hf => (World.ownsRow.lt o2 i (hF i hf)).1))⟩
  unfold OwnN
  rw [nCells_snoc, List.length_append, List.length_singleton]
  exact g1
/-- A state, as it lies in its row. -/
theorem XM.cells (h : XM T K val w0 mb ks sv xv St NX w) (hs : ∀ s ∈ St, (val s).size = K) {i : Nat} (hi : i < St.length) : ∃ g cap, sv = .slice (some ⟨g, 0, none⟩) St.length cap ∧ ∀ j v, (val St[i])[j]? = some v → w.cell? ((⟨g, i * K, none⟩ : Addr).add j) = some v := by
  rcases h.o1.2 with ⟨_, e1⟩ | ⟨g, cap, cur, e1, hb, hg, hnc, hcm, hcs, htake⟩
  · omega
  · refine ⟨g, cap, e1, fun j v hv => ?_⟩
    have hj : j < K := by
      have h1 := hs _ (List.getElem_mem hi)
      apply Nat.lt_of_not_le
      intro hle
      rw [Array.getElem?_eq_none (by rw [h1]; exact hle)] at hv
      cases hv
    have h2 := oC_get St hs i hi j hj
    rw [hv, ← htake, List.getElem?_take, if_pos (at_lt hi hj)] at h2
    have e2 : (⟨g, i * K, none⟩ : Addr).add j = ⟨g, i * K + j, none⟩ := by unfold Addr.add; split <;> simp_all
    rw [e2, cell_of_row _ _ _ _ _ _ hg]
    simpa using h2
end
end Go.Proofs.YtdgoilkgplnhfaaGreat
