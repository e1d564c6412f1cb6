/-
  Several rows of one-cell values of whatever types, each in a block of its own, while a call goes on. Of no program: no condition.
-/
import Derived.Test.YtdgoilkgplnhfabGreatB05
namespace Go.Proofs.YtdgoilkgplnhfabGreat
open Go.RowKit Go.Lib
abbrev VR := Value × TypeId × List Value
structure Vrs (w : World) (base : Nat) (R : List VR) : Prop where
  own : ∀ j (h : j < R.length), w.ownsRow base (R[j]).2.1 1 (R[j]).1 (R[j]).2.2.length (R[j]).2.2
  ap : ∀ j (h : j < R.length) k (h' : k < R.length), j ≠ k → ∀ b, (R[j]).1.ownBlock = some b → ¬ (R[k]).1.ownBlock = some b
structure Fr (w0 : World) (R : List VR) (w : World) : Prop where
  rs : Vrs w w0.heap.size R
  bel : Below w0.heap.size w0 w
section
variable {w0 w w' : World} {base : Nat} {R : List VR}
theorem Vrs.below (h : Vrs w base R) (x : Below w.heap.size w w') : Vrs w' base R := ⟨fun j hj => own_below (h.own j hj) x, h.ap⟩
theorem Vrs.upd {F : Nat → Prop} (h : Vrs w base R) {i : Nat} (hi : i < R.length) {v' : Value} {e : TypeId} {L' : List Value} (h1 : w'.ownsRow base e 1 v' L'.length L') (hk : Kept F w w') (hF : ∀ b, F b → (R[i]).1.ownBlock = some b) (hv : ∀ b, v'.ownBlock = some b → (R[i]).1.ownBlock = some b ∨ w.heap.size ≤ b) : Vrs w' base (R.set i (v', e, L')) := by
  refine ⟨fun j hj => ?_, fun j hj k hk' hne b hb hb2 => ?_⟩
  · rw [List.length_set] at hj
    by_cases hji : i = j
    · subst hji
      rw [List.getElem_set_self]
      exact h1
    · rw [List.getElem_set_ne hji]
      exact own_kept (h.own j hj) hk (fun b hb hf => h.ap j hj i hi (fun e => hji e.symm) b hb (hF b hf))
  · rw [List.length_set] at hj hk'
    have hlt : ∀ m (hm : m < R.length) b, (R[m]).1.ownBlock = some b → b < w.heap.size := fun m hm b hb => (World.ownsRow.lt (h.own m hm) b hb).2
    by_cases hji : i = j
    · subst hji
      rw [List.getElem_set_self] at hb
      rw [List.getElem_set_ne hne] at hb2
      rcases hv b hb with h3 | h3
      · exact h.ap i hi k hk' hne b h3 hb2
      · have := hlt k hk' b hb2; omega
    · rw [List.getElem_set_ne hji] at hb
      by_cases hki : i = k
      · subst hki
        rw [List.getElem_set_self] at hb2
        rcases hv b hb2 with h3 | h3
        · exact h.ap j hj i hi hne b hb h3
        · have := hlt j hj b hb; omega
      · rw [List.getElem_set_ne hki] at hb2
        exact h.ap j hj k hk' hne b hb hb2
theorem Vrs.cons (h : Vrs w base R) (x : Below w.heap.size w w') {v : Value} {e : TypeId} {L : List Value} (ho : w'.ownsRow base e 1 v L.length L) (hb : ∀ b, v.ownBlock = some b → w.heap.size ≤ b) : Vrs w' base (R ++ [(v, e, L)]) := by
  have h' := h.below x
  have hlt : ∀ m (hm : m < R.length) b, (R[m]).1.ownBlock = some b → b < w.heap.size := fun m hm b hb => (World.ownsRow.lt (h.own m hm) b hb).2
  refine ⟨fun j hj => ?_, fun j hj k hk hne b h1 h2 => ?_⟩
  · by_cases hjl : j < R.length
    · rw [List.getElem_append_left hjl]; exact h'.own j hjl
    · have : j = R.length := by rw [List.length_append, List.length_singleton] at hj; omega
      subst this
      rw [List.getElem_append_right (Nat.le_refl _)]
      simpa using ho
  · by_cases hjl : j < R.length
    · rw [List.getElem_append_left hjl] at h1
      by_cases hkl : k < R.length
      · rw [List.getElem_append_left hkl] at h2; exact h.ap j hjl k hkl hne b h1 h2
      · have : k = R.length := by rw [List.length_append, List.length_singleton] at hk; omega
        subst this
        rw [List.getElem_append_right (Nat.le_refl _)] at h2
        have := hlt j hjl b h1
        have := hb b (by simpa using h2)
        omega
    · have : j = R.length := by rw [List.length_append, List.length_singleton] at hj; omega
      subst this
      rw [List.getElem_append_right (Nat.le_refl _)] at h1
      have hkl : k < R.length := by rw [List.length_append, List.length_singleton] at hk; omega
      rw [List.getElem_append_left hkl] at h2
      have := hlt k hkl b h2
      have := hb b (by simpa using h1)
      omega
theorem Vrs.nil (w : World) (base : Nat) : Vrs w base [] := ⟨fun j hj => (by cases hj), fun j hj => (by cases hj)⟩
theorem Fr.start (w0 : World) : Fr w0 [] w0 := ⟨Vrs.nil _ _, Below.refl _ _⟩
theorem Fr.below (h : Fr w0 R w) (x : Below w.heap.size w w') : Fr w0 R w' := ⟨h.rs.below x, h.bel.trans (x.mono h.bel.size)⟩
theorem Fr.drew (h : Fr w0 R w) (n : Nat) : Fr w0 R (w.drewN n) := h.below ⟨rfl, rfl, rfl, Nat.le_refl _, fun _ _ => rfl⟩
theorem Fr.cons (h : Fr w0 R w) (x : Below w.heap.size w w') {v : Value} {e : TypeId} {L : List Value} (ho : w'.ownsRow w0.heap.size e 1 v L.length L) (hb : ∀ b, v.ownBlock = some b → w.heap.size ≤ b) : Fr w0 (R ++ [(v, e, L)]) w' := ⟨h.rs.cons x ho hb, h.bel.trans (x.mono h.bel.size)⟩
theorem Fr.store (h : Fr w0 R w) {i : Nat} (hi : i < R.length) {g n cap : Nat} {e : TypeId} {L : List Value} (hR : R[i] = (.slice (some ⟨g, 0, none⟩) n cap, e, L)) (k : Nat) (x : Value) : Fr w0 (R.set i (.slice (some ⟨g, 0, none⟩) n cap, e, L.set k x)) (w.setCell ⟨g, k, none⟩ x) := by
  have ho := h.rs.own i hi
  rw [hR] at ho
  have hn : n = L.length := by
    rcases ho.2 with ⟨e, e2⟩ | ⟨g', c', cur, e, _⟩
    · cases e
    · injection e with _ e2 _
  subst hn
  have hg := (World.ownsRow.lt ho g rfl).1
  obtain ⟨h1, h2⟩ := ho.stored k x
  have k1 : Kept (fun b => b = g) w (w.setCell ⟨g, k, none⟩ x) := (kept_of_grown h2).mono (fun b hb => by injection hb with hb; exact hb.symm)
  exact ⟨h.rs.upd hi (by rw [List.length_set]; exact h1) k1 (fun b hb => by rw [hR, hb]; rfl) (fun b hb => .inl (by rw [hR]; exact hb)), h.bel.trans (k1.below h.bel.size (fun b hb => by omega))⟩
theorem Fr.app (h : Fr w0 R w) {w5 : World} (x5 : Below w.heap.size w w5) {i : Nat} (hi : i < R.length) {v v' x : Value} {e : TypeId} {L : List Value} (hR : R[i] = (v, e, L)) (h1 : w'.ownsRow w0.heap.size e 1 v' (L.length + 1) (L ++ [x])) (h2 : AppAt w5 w' v v') : Fr w0 (R.set i (v', e, L ++ [x])) w' := by
  have h5 := h.below x5
  have o : w'.ownsRow w0.heap.size e 1 v' (L ++ [x]).length (L ++ [x]) := by
    rw [List.length_append, List.length_singleton]
    exact h1
  have ov := h5.rs.own i hi
  rw [hR] at ov
  have hv : (R[i]).1 = v := by rw [hR]
  rcases h2 with ⟨q, a, b, c⟩ | ⟨a, b⟩
  · have k6 := kept_of_grown c
    exact ⟨h5.rs.upd hi o k6 (fun k hk => by rw [hv]; exact a.trans hk) (fun k hk => .inl (by rw [hv, a, ← b]; exact hk)), h5.bel.trans (k6.below h5.bel.size (fun k hk => (World.ownsRow.lt ov k (a.trans hk)).1))⟩
  · have x6 := below_of_grown a
    exact ⟨h5.rs.upd (F := fun _ => False) hi o (Kept.of_below x6) (fun k hk => hk.elim) (fun k hk => .inr (b k hk)), h5.bel.trans (x6.mono h5.bel.size)⟩
theorem Fr.own (h : Fr w0 R w) {i : Nat} (hi : i < R.length) {v : Value} {e : TypeId} {L : List Value} (hR : R[i] = (v, e, L)) : w.ownsRow w0.heap.size e 1 v L.length L := by
  have ho := h.rs.own i hi
  rw [hR] at ho
  exact ho
theorem Fr.shape (h : Fr w0 R w) {i : Nat} (hi : i < R.length) {v : Value} {e : TypeId} {L : List Value} (hR : R[i] = (v, e, L)) : ∃ ao cap, v = .slice ao L.length cap := by
  obtain ⟨ao, cap, e, _⟩ := own_shape (h.own hi hR)
  exact ⟨ao, cap, e⟩
theorem Fr.cell (h : Fr w0 R w) {i : Nat} (hi : i < R.length) {ao : Option Addr} {n cap : Nat} {e : TypeId} {L : List Value} (hR : R[i] = (.slice ao n cap, e, L)) {k : Nat} (hk : k < L.length) : ∃ g, ao = some ⟨g, 0, none⟩ ∧ w.cell? ⟨g, k, none⟩ = some L[k] ∧ w.frozen? ⟨g, k, none⟩ = false := by
  have ho := h.own hi hR
  obtain ⟨a2, c2, e2, hp⟩ := own_shape ho
  obtain ⟨g, hg⟩ := hp (by omega)
  simp only [Value.slice.injEq] at e2
  obtain ⟨e1, e3, e4⟩ := e2
  rw [hg] at e1
  subst e1 e3 e4
  have := ho.cellAt k (by omega)
  rw [List.getElem?_eq_getElem (by omega)] at this
  exact ⟨g, rfl, this, ho.frozenAt _⟩
end
def bC (B : List Bool) : List Value := B.map Value.bool
theorem bC_len (B : List Bool) : (bC B).length = B.length := by simp [bC]
theorem bC_set (B : List Bool) (i : Nat) (x : Bool) : (bC B).set i (.bool x) = bC (B.set i x) := by simp [bC, List.map_set]
section
variable {w0 w w4 : World} {R : List VR}
theorem Fr.slot (h : Fr w0 R w) {i : Nat} (hi : i < R.length) {g n cap : Nat} {e : TypeId} {L : List Value} (hR : R[i] = (.slice (some ⟨g, 0, none⟩) n cap, e, L)) {k : Nat} (hk : k < L.length) : w.cell? ⟨g, k, none⟩ = some L[k] ∧ w.frozen? ⟨g, k, none⟩ = false := by
  obtain ⟨g', e1, h1, h2⟩ := h.cell hi hR hk
  simp only [Option.some.injEq, Addr.mk.injEq] at e1
  obtain ⟨rfl, _⟩ := e1
  exact ⟨h1, h2⟩
theorem Fr.slotN (h : Fr w0 R w) {i : Nat} (hi : i < R.length) {g n cap : Nat} {L : List Nat} (hR : R[i] = (.slice (some ⟨g, 0, none⟩) n cap, 3, nCells L)) {k : Nat} (hk : k < L.length) : w.cell? ⟨g, k, none⟩ = some (.int .i64 ((gN L k : Nat) : Int)) ∧ w.frozen? ⟨g, k, none⟩ = false := by
  obtain ⟨h1, h2⟩ := h.slot hi hR (k := k) (by rw [nCells_length]; exact hk)
  refine ⟨?_, h2⟩
  rw [h1, gN_lt hk]
  simp [nCells]
theorem Fr.slotB (h : Fr w0 R w) {i : Nat} (hi : i < R.length) {g n cap : Nat} {B : List Bool} (hR : R[i] = (.slice (some ⟨g, 0, none⟩) n cap, 4, bC B)) {k : Nat} (hk : k < B.length) : w.cell? ⟨g, k, none⟩ = some (.bool (B.getD k false)) ∧ w.frozen? ⟨g, k, none⟩ = false := by
  obtain ⟨h1, h2⟩ := h.slot hi hR (k := k) (by rw [bC_len]; exact hk)
  refine ⟨?_, h2⟩
  rw [h1]
  simp [bC, List.getD_eq_getElem?_getD, hk]
theorem Fr.nat (h : Fr w0 R w) {i : Nat} (hi : i < R.length) {v : Value} {L : List Nat} (hR : R[i] = (v, 3, nCells L)) : ∃ ao cap, v = .slice ao L.length cap ∧ NAt w ao L := by
  have ho := h.own hi hR
  rw [nCells_length] at ho
  exact OwnN.at (show OwnN w w0.heap.size v L from ho)
theorem Fr.storeN (h : Fr w0 R w) {i : Nat} (hi : i < R.length) {g n cap : Nat} {L : List Nat} (hR : R[i] = (.slice (some ⟨g, 0, none⟩) n cap, 3, nCells L)) (k x : Nat) : Fr w0 (R.set i (.slice (some ⟨g, 0, none⟩) n cap, 3, nCells (L.set k x))) (w.setCell ⟨g, k, none⟩ (.int .i64 (x : Int))) := by
  rw [← nCells_set]
  exact h.store hi hR k _
theorem Fr.storeB (h : Fr w0 R w) {i : Nat} (hi : i < R.length) {g n cap : Nat} {B : List Bool} (hR : R[i] = (.slice (some ⟨g, 0, none⟩) n cap, 4, bC B)) (k : Nat) (x : Bool) : Fr w0 (R.set i (.slice (some ⟨g, 0, none⟩) n cap, 4, bC (B.set k x))) (w.setCell ⟨g, k, none⟩ (.bool x)) := by
  rw [← bC_set]
  exact h.store hi hR k _
theorem Fr.madeB (h : Fr w0 R w) {n : Nat} (m1 : w4.ownsRow w0.heap.size 4 1 (.slice (some ⟨w.heap.size, 0, none⟩) n n) n (madeCells (Value.bool false).cells (n * 1)).toList) (m2 : w.grownBy w4 none) : Fr w0 (R ++ [(.slice (some ⟨w.heap.size, 0, none⟩) n n, 4, bC (List.replicate n false))]) w4 := by
  rw [made_falses] at m1
  refine h.cons (below_of_grown m2) ?_ (fun b hb => by have e : w.heap.size = b := Option.some.inj hb; omega)
  rw [bC_len, List.length_replicate]
  exact m1
theorem Fr.madeN (h : Fr w0 R w) {n : Nat} (m1 : w4.ownsRow w0.heap.size 3 1 (.slice (some ⟨w.heap.size, 0, none⟩) n n) n (madeCells (Value.int .i64 0).cells (n * 1)).toList) (m2 : w.grownBy w4 none) : Fr w0 (R ++ [(.slice (some ⟨w.heap.size, 0, none⟩) n n, 3, nCells (List.replicate n 0))]) w4 := by
  rw [made_nums] at m1
  refine h.cons (below_of_grown m2) ?_ (fun b hb => by have e : w.heap.size = b := Option.some.inj hb; omega)
  rw [nCells_length, List.length_replicate]
  exact m1
theorem Fr.bare (h : Fr w0 R w) (e : TypeId) : Fr w0 (R ++ [(.slice none 0 0, e, [])]) w := h.cons (Below.refl _ _) (World.ownsRow_nil w _ e 1) (fun b hb => by cases hb)
end
section
variable {w0 w w' : World} {R : List VR}
theorem Fr.sel (h : Fr w0 R w) {R' : List VR} (f : Nat → Nat) (hf : ∀ j (hj : j < R'.length), ∃ hk : f j < R.length, R'[j] = R[f j]) (hi : ∀ j, j < R'.length → ∀ k, k < R'.length → f j = f k → j = k) : Fr w0 R' w := by
  refine ⟨⟨fun j hj => ?_, fun j hj k hk hne b h1 h2 => ?_⟩, h.bel⟩
  · obtain ⟨hk, e⟩ := hf j hj
    rw [e]
    exact h.rs.own _ hk
  · obtain ⟨hj', e1⟩ := hf j hj
    obtain ⟨hk', e2⟩ := hf k hk
    rw [e1] at h1
    rw [e2] at h2
    exact h.rs.ap _ hj' _ hk' (fun e => hne (hi j hj k hk e)) b h1 h2
theorem Fr.front {x : VR} (h : Fr w0 (R ++ [x]) w) : Fr w0 (x :: R) w := by
  refine h.sel (fun j => if j = 0 then R.length else j - 1) (fun j hj => ?_) (fun j hj k hk e => ?_)
  · cases j with
    | zero => exact ⟨by simp, by simp⟩
    | succ j =>
      have hj' : j < R.length := by simpa using hj
      refine ⟨by simp; omega, ?_⟩
      simp [List.getElem_append_left hj']
  · simp only [List.length_cons] at hj hk
    by_cases h1 : j = 0
    · by_cases h2 : k = 0
      · omega
      · simp only [if_pos h1, if_neg h2] at e; omega
    · by_cases h2 : k = 0
      · simp only [if_neg h1, if_pos h2] at e; omega
      · simp only [if_neg h1, if_neg h2] at e; omega
theorem Fr.tail {x : VR} (h : Fr w0 (x :: R) w) : Fr w0 R w := by
  refine h.sel (fun j => j + 1) (fun j hj => ⟨by simp; exact hj, by simp⟩) (fun j _ k _ e => by omega)
theorem Fr.swap {x y : VR} (h : Fr w0 (x :: y :: R) w) : Fr w0 (y :: x :: R) w := by
  refine h.sel (fun j => if j = 0 then 1 else if j = 1 then 0 else j) (fun j hj => ?_) (fun j _ k _ e => ?_)
  · match j, hj with
    | 0, _ => exact ⟨by simp, by simp⟩
    | 1, _ => exact ⟨by simp, by simp⟩
    | j + 2, hj => exact ⟨by simpa using hj, by simp⟩
  · have key : ∀ j : Nat, (if j = 0 then 1 else if j = 1 then 0 else j) = 1 ∧ j = 0 ∨ (if j = 0 then 1 else if j = 1 then 0 else j) = 0 ∧ j = 1 ∨ (if j = 0 then 1 else if j = 1 then 0 else j) = j ∧ 1 < j := fun j => by
      by_cases h1 : j = 0
      · simp [h1]
      · by_cases h2 : j = 1
        · simp [h2]
        · simp [h1, h2]; omega
    have h1 := key j
    have h2 := key k
    omega
theorem Fr.drop3 {x y z u : VR} (h : Fr w0 (x :: y :: z :: u :: R) w) : Fr w0 (x :: y :: z :: R) w := by
  refine h.sel (fun j => if j < 3 then j else j + 1) (fun j hj => ?_) (fun j _ k _ e => ?_)
  · match j, hj with
    | 0, _ => exact ⟨by simp, by simp⟩
    | 1, _ => exact ⟨by simp, by simp⟩
    | 2, _ => exact ⟨by simp, by simp⟩
    | j + 3, hj =>
      have hj' : j < R.length := by simpa using hj
      have e : (if j + 3 < 3 then j + 3 else j + 3 + 1) = j + 4 := by rw [if_neg (by omega)]
      exact ⟨by rw [e]; simp; exact hj', by simp only [e]; simp⟩
  · have key : ∀ j : Nat, (if j < 3 then j else j + 1) = j ∧ j < 3 ∨ (if j < 3 then j else j + 1) = j + 1 ∧ 3 ≤ j := fun j => by
      by_cases h1 : j < 3
      · simp [h1]
      · simp [h1]; omega
    have h1 := key j
    have h2 := key k
    omega
theorem Fr.box (h : Fr w0 R w) (e : TypeId) (cs : List Value) (hl : cs.length ≤ maxLen) : Fr w0 ((.slice (some ⟨w.heap.size, 0, none⟩) cs.length cs.length, e, cs) :: R) (w.alloc (.cells cs.toArray e)) := by
  refine Fr.front (h.cons (al (Below.refl _ _) _) ?_ (fun b hb => by have e : w.heap.size = b := Option.some.inj hb; omega))
  exact ⟨by simp, .inr ⟨w.heap.size, cs.length, cs.toArray, rfl, h.bel.size, heap_alloc_new _ _, Nat.le_refl _, hl, by simp, by simp⟩⟩
theorem Fr.mkN (h : Fr w0 R w) {n : Nat} (m1 : w'.ownsRow w0.heap.size 3 1 (.slice (some ⟨w.heap.size, 0, none⟩) n n) n (madeCells (Value.int .i64 0).cells (n * 1)).toList) (m2 : w.grownBy w' none) : Fr w0 ((.slice (some ⟨w.heap.size, 0, none⟩) n n, 3, nCells (List.replicate n 0)) :: R) w' := (h.madeN m1 m2).front
end
end Go.Proofs.YtdgoilkgplnhfabGreat
