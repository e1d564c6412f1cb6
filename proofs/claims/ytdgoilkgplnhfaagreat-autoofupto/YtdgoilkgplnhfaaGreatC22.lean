/-
  Several rows of one-cell values of whatever types, each in a block of its own, while a call goes on. Of no program: no condition.
-/
import Derived.Test.YtdgoilkgplnhfaaGreatC21
import Derived.Test.YtdgoilkgplnhfaaGreatC09
import Derived.Laws.MakeOwn
import Derived.Test.YtdgoilkgplnhfaaGreatC10
set_option maxRecDepth 100000
set_option maxHeartbeats 16000000
namespace Go.Proofs.YtdgoilkgplnhfaaGreat
open Go.RowKit Go.Lib
abbrev VR := Value × TypeId × List Value
structure Vrs (w : World) (base : Nat) (R : List VR) : Prop where
 own : ∀ j (h : j < R.length), w.ownsRow base (R[j]).2.1 1 (R[j]).1 (R[j]).2.2.length (R[j]).2.2
 ap : ∀ j (h : j < R.length) k (h' : k < R.length), j ≠ k → ∀ b, (R[j]).1.ownBlock = some b → ¬ (R[k]).1.ownBlock = some b
structure Fr (w0 : World) (R : List VR) (w : World) : Prop where
 rs : Vrs w w0.heap.size R
 bel : Below w0.heap.size w0 w
section
variable {w0 w w' : World} {base : Nat} {R : List VR}
theorem Vrs.below (h : Vrs w base R) (x : Below w.heap.size w w') : Vrs w' base R := ⟨fun j hj => own_below (h.own j hj) x, h.ap⟩
theorem Vrs.upd {F : Nat → Prop} (h : Vrs w base R) {i : Nat} (hi : i < R.length) {v' : Value} {e : TypeId} {L' : List Value} (h1 : w'.ownsRow base e 1 v' L'.length L') (hk : Kept F w w') (hF : ∀ b, F b → (R[i]).1.ownBlock = some b) (hv : ∀ b, v'.ownBlock = some b → (R[i]).1.ownBlock = some b ∨ w.heap.size ≤ b) : Vrs w' base (R.set i (v', e, L')) := by
 refine ⟨fun j hj => ?_, fun j hj k hk' hne b hb hb2 => ?_⟩
 · rw [List.length_set] at hj
   by_cases hji : i = j
   · subst hji
     rw [List.getElem_set_self]
     exact h1
   · rw [List.getElem_set_ne hji]
     exact own_kept (h.own j hj) hk (fun b hb hf => h.ap j hj i hi (fun e => hji e.symm) b hb (hF b hf))
 · rw [List.length_set] at hj hk'
   have hlt : ∀ m (hm : m < R.length) b, (R[m]).1.ownBlock = some b → b < w.heap.size := fun m hm b hb => (World.ownsRow.lt (h.own m hm) b hb).2
   by_cases hji : i = j
   · subst hji
     rw [List.getElem_set_self] at hb
     rw [List.getElem_set_ne hne] at hb2
     rcases hv b hb with h3 | h3
     · exact h.ap i hi k hk' hne b h3 hb2
     · have := hlt k hk' b hb2; omega
   · rw [List.getElem_set_ne hji] at hb
     by_cases hki : i = k
     · subst hki
       rw [List.getElem_set_self] at hb2
       rcases hv b hb2 with h3 | h3
       · exact h.ap j hj i hi hne b hb h3
       · have := hlt j hj b hb; omega
     · rw [List.getElem_set_ne hki] at hb2
       exact h.ap j hj k hk' hne b hb hb2
theorem Vrs.cons (h : Vrs w base R) (x : Below w.heap.size w w') {v : Value} {e : TypeId} {L : List Value} (ho : w'.ownsRow base e 1 v L.length L) (hb : ∀ b, v.ownBlock = some b → w.heap.size ≤ b) : Vrs w' base (R ++ [(v, e, L)]) := by
 have h' := h.below x
 have hlt : ∀ m (hm : m < R.length) b, (R[m]).1.ownBlock = some b → b < w.heap.size := fun m hm b hb => (World.ownsRow.lt (h.own m hm) b hb).2
 refine ⟨fun j hj => ?_, fun j hj k hk hne b h1 h2 => ?_⟩
 · by_cases hjl : j < R.length
   · rw [List.getElem_append_left hjl]; exact h'.own j hjl
   · have : j = R.length := by rw [List.length_append, List.length_singleton] at hj; omega
     subst this
     rw [List.getElem_append_right (Nat.le_refl _)]
     simpa using ho
 · by_cases hjl : j < R.length
   · rw [List.getElem_append_left hjl] at h1
     by_cases hkl : k < R.length
     · rw [List.getElem_append_left hkl] at h2; exact h.ap j hjl k hkl hne b h1 h2
     · have : k = R.length := by rw [List.length_append, List.length_singleton] at hk; omega
       subst this
       rw [List.getElem_append_right (Nat.le_refl _)] at h2
       have := hlt j hjl b h1
       have := hb b (by simpa using h2)
       omega
   · have : j = R.length := by rw [List.length_append, List.length_singleton] at hj; omega
     subst this
     rw [List.getElem_append_right (Nat.le_refl _)] at h1
     have hkl : k < R.length := by rw [List.length_append, List.length_singleton] at hk; omega
     rw [List.getElem_append_left hkl] at h2
     have := hlt k hkl b h2
     have := hb b (by simpa using h1)
     omega
theorem Vrs.nil (w : World) (base : Nat) : Vrs w base [] := ⟨fun j hj => (by cases hj), fun j hj => (by cases hj)⟩
theorem Fr.start (w0 : World) : Fr w0 [] w0 := ⟨Vrs.nil _ _, Below.refl _ _⟩
theorem Fr.below (h : Fr w0 R w) (x : Below w.heap.size w w') : Fr w0 R w' := ⟨h.rs.below x, h.bel.trans (x.mono h.bel.size)⟩
theorem Fr.drew (h : Fr w0 R w) (n : Nat) : Fr w0 R (w.drewN n) := h.below ⟨rfl, rfl, rfl, Nat.le_refl _, fun _ _ => rfl⟩
theorem Fr.cons (h : Fr w0 R w) (x : Below w.heap.size w w') {v : Value} {e : TypeId} {L : List Value} (ho : w'.ownsRow w0.heap.size e 1 v L.length L) (hb : ∀ b, v.ownBlock = some b → w.heap.size ≤ b) : Fr w0 (R ++ [(v, e, L)]) w' := ⟨h.rs.cons x ho hb, h.bel.trans (x.mono h.bel.size)⟩
theorem Fr.store (h : Fr w0 R w) {i : Nat} (hi : i < R.length) {g n cap : Nat} {e : TypeId} {L : List Value} (hR : R[i] = (.slice (some ⟨g, 0, none⟩) n cap, e, L)) (k : Nat) (x : Value) : Fr w0 (R.set i (.slice (some ⟨g, 0, none⟩) n cap, e, L.set k x)) (w.setCell ⟨g, k, none⟩ x) := by
 have ho := h.rs.own i hi
 rw [hR] at ho
 have hn : n = L.length := by
  rcases ho.2 with ⟨e, e2⟩ | ⟨g', c', cur, e, _⟩
  · cases e
  · injection e with _ e2 _
 subst hn
 have hg := (World.ownsRow.lt ho g rfl).1
 obtain ⟨h1, h2⟩ := ho.stored k x
 have k1 : Kept (fun b => b = g) w (w.setCell ⟨g, k, none⟩ x) := (kept_of_grown h2).mono (fun b hb => by injection hb with hb; exact hb.symm)
 exact ⟨h.rs.upd hi (by rw [List.length_set]; exact h1) k1 (fun b hb => by rw [hR, hb]; rfl) (fun b hb => .inl (by rw [hR]; exact hb)), h.bel.trans (k1.below h.bel.size (fun b hb => by omega))⟩
theorem Fr.app (h : Fr w0 R w) {w5 : World} (x5 : Below w.heap.size w w5) {i : Nat} (hi : i < R.length) {v v' x : Value} {e : TypeId} {L : List Value} (hR : R[i] = (v, e, L)) (h1 : w'.ownsRow w0.heap.size e 1 v' (L.length + 1) (L ++ [x])) (h2 : AppAt w5 w' v v') : Fr w0 (R.set i (v', e, L ++ [x])) w' := by
 have h5 := h.below x5
 have o : w'.ownsRow w0.heap.size e 1 v' (L ++ [x]).length (L ++ [x]) := by
  rw [List.length_append, List.length_singleton]
  exact h1
 have ov := h5.rs.own i hi
 rw [hR] at ov
 have hv : (R[i]).1 = v := by rw [hR]
 rcases h2 with ⟨q, a, b, c⟩ | ⟨a, b⟩
 · have k6 := kept_of_grown c
   exact ⟨h5.rs.upd hi o k6 (fun k hk => by rw [hv]; exact a.trans hk) (fun k hk => .inl (by rw [hv, a, ← b]; exact hk)), h5.bel.trans (k6.below h5.bel.size (fun k hk => (World.ownsRow.lt ov k (a.trans hk)).1))⟩
 · have x6 := below_of_grown a
   exact ⟨h5.rs.upd (F := fun _ => False) hi o (Kept.of_below x6) (fun k hk => hk.elim) (fun k hk => .inr (b k hk)), h5.bel.trans (x6.mono h5.bel.size)⟩
theorem Fr.own (h : Fr w0 R w) {i : Nat} (hi : i < R.length) {v : Value} {e : TypeId} {L : List Value} (hR : R[i] = (v, e, L)) : w.ownsRow w0.heap.size e 1 v L.length L := by
 have ho := h.rs.own i hi
 rw [hR] at ho
 exact ho
theorem Fr.shape (h : Fr w0 R w) {i : Nat} (hi : i < R.length) {v : Value} {e : TypeId} {L : List Value} (hR : R[i] = (v, e, L)) : ∃ ao cap, v = .slice ao L.length cap := by
 obtain ⟨ao, cap, e, _⟩ := own_shape (h.own hi hR)
 exact ⟨ao, cap, e⟩
theorem Fr.cell (h : Fr w0 R w) {i : Nat} (hi : i < R.length) {ao : Option Addr} {n cap : Nat} {e : TypeId} {L : List Value} (hR : R[i] = (.slice ao n cap, e, L)) {k : Nat} (hk : k < L.length) : ∃ g, ao = some ⟨g, 0, none⟩ ∧ w.cell? ⟨g, k, none⟩ = some L[k] ∧ w.frozen? ⟨g, k, none⟩ = false := by
 have ho := h.own hi hR
 obtain ⟨a2, c2, e2, hp⟩ := own_shape ho
 obtain ⟨g, hg⟩ := hp (by omega)
 simp only [Value.slice.injEq] at e2
 obtain ⟨e1, e3, e4⟩ := e2
 rw [hg] at e1
 subst e1 e3 e4
 have := ho.cellAt k (by omega)
 rw [List.getElem?_eq_getElem (by omega)] at this
 exact ⟨g, rfl, this, ho.frozenAt _⟩
end
def bC (B : List Bool) : List Value := B.map Value.bool
theorem bC_len (B : List Bool) : (bC B).length = B.length := by simp [bC]
theorem bC_set (B : List Bool) (i : Nat) (x : Bool) : (bC B).set i (.bool x) = bC (B.set i x) := by simp [bC, List.map_set]
section
variable {w0 w w4 : World} {R : List VR}
theorem Fr.slot (h : Fr w0 R w) {i : Nat} (hi : i < R.length) {g n cap : Nat} {e : TypeId} {L : List Value} (hR : R[i] = (.slice (some ⟨g, 0, none⟩) n cap, e, L)) {k : Nat} (hk : k < L.length) : w.cell? ⟨g, k, none⟩ = some L[k] ∧ w.frozen? ⟨g, k, none⟩ = false := by
 obtain ⟨g', e1, h1, h2⟩ := h.cell hi hR hk
 simp only [Option.some.injEq, Addr.mk.injEq] at e1
 obtain ⟨rfl, _⟩ := e1
 exact ⟨h1, h2⟩
theorem Fr.slotN (h : Fr w0 R w) {i : Nat} (hi : i < R.length) {g n cap : Nat} {L : List Nat} (hR : R[i] = (.slice (some ⟨g, 0, none⟩) n cap, 3, nCells L)) {k : Nat} (hk : k < L.length) : w.cell? ⟨g, k, none⟩ = some (.int .i64 ((gN L k : Nat) : Int)) ∧ w.frozen? ⟨g, k, none⟩ = false := by
 obtain ⟨h1, h2⟩ := h.slot hi hR (k := k) (by rw [nCells_length]; exact hk)
 refine ⟨?_, h2⟩
 rw [h1, gN_lt hk]
 simp [nCells]
theorem Fr.slotB (h : Fr w0 R w) {i : Nat} (hi : i < R.length) {g n cap : Nat} {B : List Bool} (hR : R[i] = (.slice (some ⟨g, 0, none⟩) n cap, 4, bC B)) {k : Nat} (hk : k < B.length) : w.cell? ⟨g, k, none⟩ = some (.bool (B.getD k false)) ∧ w.frozen? ⟨g, k, none⟩ = false := by
 obtain ⟨h1, h2⟩ := h.slot hi hR (k := k) (by rw [bC_len]; exact hk)
 refine ⟨?_, h2⟩
 rw [h1]
 simp [bC, List.getD_eq_getElem?_getD, hk]
theorem Fr.nat (h : Fr w0 R w) {i : Nat} (hi : i < R.length) {v : Value} {L : List Nat} (hR : R[i] = (v, 3, nCells L)) : ∃ ao cap, v = .slice ao L.length cap ∧ NAt w ao L := by
 have ho := h.own hi hR
 rw [nCells_length] at ho
 exact OwnN.at (show OwnN w w0.heap.size v L from ho)
theorem Fr.storeN (h : Fr w0 R w) {i : Nat} (hi : i < R.length) {g n cap : Nat} {L : List Nat} (hR : R[i] = (.slice (some ⟨g, 0, none⟩) n cap, 3, nCells L)) (k x : Nat) : Fr w0 (R.set i (.slice (some ⟨g, 0, none⟩) n cap, 3, nCells (L.set k x))) (w.setCell ⟨g, k, none⟩ (.int .i64 (x : Int))) := by
 rw [← nCells_set]
 exact h.store hi hR k _
theorem Fr.storeB (h : Fr w0 R w) {i : Nat} (hi : i < R.length) {g n cap : Nat} {B : List Bool} (hR : R[i] = (.slice (some ⟨g, 0, none⟩) n cap, 4, bC B)) (k : Nat) (x : Bool) : Fr w0 (R.set i (.slice (some ⟨g, 0, none⟩) n cap, 4, bC (B.set k x))) (w.setCell ⟨g, k, none⟩ (.bool x)) := by
 rw [← bC_set]
 exact h.store hi hR k _
theorem Fr.madeB (h : Fr w0 R w) {n : Nat} (m1 : w4.ownsRow w0.heap.size 4 1 (.slice (some ⟨w.heap.size, 0, none⟩) n n) n (madeCells (Value.bool false).cells (n * 1)).toList) (m2 : w.grownBy w4 none) : Fr w0 (R ++ [(.slice (some ⟨w.heap.size, 0, none⟩) n n, 4, bC (List.replicate n false))]) w4 := by
 rw [made_falses] at m1
 refine h.cons (below_of_grown m2) ?_ (fun b hb => by have e : w.heap.size = b := Option.some.inj hb; omega)
 rw [bC_len, List.length_replicate]
 exact m1
theorem Fr.madeN (h : Fr w0 R w) {n : Nat} (m1 : w4.ownsRow w0.heap.size 3 1 (.slice (some ⟨w.heap.size, 0, none⟩) n n) n (madeCells (Value.int .i64 0).cells (n * 1)).toList) (m2 : w.grownBy w4 none) : Fr w0 (R ++ [(.slice (some ⟨w.heap.size, 0, none⟩) n n, 3, nCells (List.replicate n 0))]) w4 := by
 rw [made_nums] at m1
 refine h.cons (below_of_grown m2) ?_ (fun b hb => by have e : w.heap.size = b := Option.some.inj hb; omega)
 rw [nCells_length, List.length_replicate]
 exact m1
theorem Fr.bare (h : Fr w0 R w) (e : TypeId) : Fr w0 (R ++ [(.slice none 0 0, e, [])]) w := h.cons (Below.refl _ _) (World.ownsRow_nil w _ e 1) (fun b hb => by cases hb)
theorem Fr.pre (h : Fr w0 R w) {i : Nat} (hi : i < R.length) {v : Value} {L : List Nat} (hR : R[i] = (v, 3, nCells L)) (z : Int) : (w.alloc (.cells #[.int .i64 z] 3)).ownsRow w0.heap.size 3 1 v L.length (nCells L) ∧ (∀ (j : Nat) (u : Value), [Value.int .i64 z][j]? = some u → (w.alloc (.cells #[.int .i64 z] 3)).cell? ((⟨w.heap.size, 0, none⟩ : Addr).add j) = some u) ∧ w0.heap.size ≤ (w.alloc (.cells #[.int .i64 z] 3)).heap.size := by
 have x5 : Below w.heap.size w (w.alloc (.cells #[.int .i64 z] 3)) := al (Below.refl _ _) _
 refine ⟨?_, fun j u hu => ?_, Nat.le_trans h.bel.size x5.size⟩
 · have ho := h.own hi hR
   rw [nCells_length] at ho
   exact own_below ho x5
 · have hB := heap_alloc_new w (.cells #[.int .i64 z] 3)
   rw [addr_add, cell_of_row _ _ _ _ _ _ hB]
   simpa using hu
theorem Fr.push (h : Fr w0 R w) {i : Nat} (hi : i < R.length) {v v' : Value} {L : List Nat} (hR : R[i] = (v, 3, nCells L)) {x : Nat} (h1 : w4.ownsRow w0.heap.size 3 1 v' (L.length + 1) (nCells L ++ [.int .i64 (x : Int)])) (h2 : AppAt (w.alloc (.cells #[.int .i64 (x : Int)] 3)) w4 v v') : Fr w0 (R.set i (v', 3, nCells (L ++ [x]))) w4 := by
 rw [nCells_snoc]
 exact h.app (al (Below.refl _ _) _) hi hR (by rw [nCells_length]; exact h1) h2
end
section
variable {w0 w w' : World} {R : List VR}
theorem Fr.sel (h : Fr w0 R w) {R' : List VR} (f : Nat → Nat) (hf : ∀ j (hj : j < R'.length), ∃ hk : f j < R.length, R'[j] = R[f j]) (hi : ∀ j, j < R'.length → ∀ k, k < R'.length → f j = f k → j = k) : Fr w0 R' w := by
 refine ⟨⟨fun j hj => ?_, fun j hj k hk hne b h1 h2 => ?_⟩, h.bel⟩
 · obtain ⟨hk, e⟩ := hf j hj
   rw [e]
   exact h.rs.own _ hk
 · obtain ⟨hj', e1⟩ := hf j hj
   obtain ⟨hk', e2⟩ := hf k hk
   rw [e1] at h1
   rw [e2] at h2
   exact h.rs.ap _ hj' _ hk' (fun e => hne (hi j hj k hk e)) b h1 h2
theorem Fr.front {x : VR} (h : Fr w0 (R ++ [x]) w) : Fr w0 (x :: R) w := by
 refine h.sel (fun j => if j = 0 then R.length else j - 1) (fun j hj => ?_) (fun j hj k hk e => ?_)
 · cases j with
   | zero => exact ⟨by simp, by simp⟩
   | succ j =>
     have hj' : j < R.length := by simpa using hj
     refine ⟨by simp; omega, ?_⟩
     simp [List.getElem_append_left hj']
 · simp only [List.length_cons] at hj hk
   by_cases h1 : j = 0
   · by_cases h2 : k = 0
     · omega
     · simp only [if_pos h1, if_neg h2] at e; omega
   · by_cases h2 : k = 0
     · simp only [if_neg h1, if_pos h2] at e; omega
     · simp only [if_neg h1, if_neg h2] at e; omega
theorem Fr.tail {x : VR} (h : Fr w0 (x :: R) w) : Fr w0 R w := by
 refine h.sel (fun j => j + 1) (fun j hj => ⟨by simp; exact hj, by simp⟩) (fun j _ k _ e => by omega)
theorem Fr.swap {x y : VR} (h : Fr w0 (x :: y :: R) w) : Fr w0 (y :: x :: R) w := by
 refine h.sel (fun j => if j = 0 then 1 else if j = 1 then 0 else j) (fun j hj => ?_) (fun j _ k _ e => ?_)
 · match j, hj with
   | 0, _ => exact ⟨by simp, by simp⟩
   | 1, _ => exact ⟨by simp, by simp⟩
   | j + 2, hj => exact ⟨by simpa using hj, by simp⟩
 · have key : ∀ j : Nat, (if j = 0 then 1 else if j = 1 then 0 else j) = 1 ∧ j = 0 ∨ (if j = 0 then 1 else if j = 1 then 0 else j) = 0 ∧ j = 1 ∨ (if j = 0 then 1 else if j = 1 then 0 else j) = j ∧ 1 < j := fun j => by
    by_cases h1 : j = 0
    · simp [h1]
    · by_cases h2 : j = 1
      · simp [h2]
      · simp [h1, h2]; omega
   have h1 := key j
   have h2 := key k
   omega
theorem Fr.drop3 {x y z u : VR} (h : Fr w0 (x :: y :: z :: u :: R) w) : Fr w0 (x :: y :: z :: R) w := by
 refine h.sel (fun j => if j < 3 then j else j + 1) (fun j hj => ?_) (fun j _ k _ e => ?_)
 · match j, hj with
   | 0, _ => exact ⟨by simp, by simp⟩
   | 1, _ => exact ⟨by simp, by simp⟩
   | 2, _ => exact ⟨by simp, by simp⟩
   | j + 3, hj =>
     have hj' : j < R.length := by simpa using hj
     have e : (if j + 3 < 3 then j + 3 else j + 3 + 1) = j + 4 := by rw [if_neg (by omega)]
     exact ⟨by rw [e]; simp; exact hj', by simp only [e]; simp⟩
 · have key : ∀ j : Nat, (if j < 3 then j else j + 1) = j ∧ j < 3 ∨ (if j < 3 then j else j + 1) = j + 1 ∧ 3 ≤ j := fun j => by
    by_cases h1 : j < 3
    · simp [h1]
    · simp [h1]; omega
   have h1 := key j
   have h2 := key k
   omega
theorem Fr.box (h : Fr w0 R w) (e : TypeId) (cs : List Value) (hl : cs.length ≤ maxLen) : Fr w0 ((.slice (some ⟨w.heap.size, 0, none⟩) cs.length cs.length, e, cs) :: R) (w.alloc (.cells cs.toArray e)) := by
 refine Fr.front (h.cons (al (Below.refl _ _) _) ?_ (fun b hb => by have e : w.heap.size = b := Option.some.inj hb; omega))
 exact ⟨by simp, .inr ⟨w.heap.size, cs.length, cs.toArray, rfl, h.bel.size, heap_alloc_new _ _, Nat.le_refl _, hl, by simp, by simp⟩⟩
theorem Fr.mkN (h : Fr w0 R w) {n : Nat} (m1 : w'.ownsRow w0.heap.size 3 1 (.slice (some ⟨w.heap.size, 0, none⟩) n n) n (madeCells (Value.int .i64 0).cells (n * 1)).toList) (m2 : w.grownBy w' none) : Fr w0 ((.slice (some ⟨w.heap.size, 0, none⟩) n n, 3, nCells (List.replicate n 0)) :: R) w' := (h.madeN m1 m2).front
end
theorem colsD_any (bs : By) (na oa : Option Addr) (nl nc ol oc : Nat) (w : World) (hb : bs.length = 256) :
 Calls Tryz.prog 36 #[auV bs na nl nc oa ol oc] w fun e w' => (∃ ao cap L B, e = .returned (.slice ao L.length cap) ∧ NAt w' ao L ∧ ClT (fun b => (bs.getD b 0).toNat) 256 B L) ∧ Below w.heap.size w w' := by
 obtain ⟨i3, hi3, hz30, hz31, hz32⟩ := info_parts Tryz.info3n
 obtain ⟨i4, hi4, hz40, hz41, hz42⟩ := info_parts Tryz.info4n
 obtain ⟨w2, hw2⟩ : ∃ w2, w2 = w.alloc (.cells #[.string ⟨bs.toArray⟩, .slice na nl nc, .slice oa ol oc] 24) := ⟨_, rfl⟩
 have X2 : Below w.heap.size w w2 := by rw [hw2]; exact al (Below.refl _ _) _
 have B2 : w2.heap[w.heap.size]? = some (.cells #[.string ⟨bs.toArray⟩, .slice na nl nc, .slice oa ol oc] 24 (0, 0)) := by rw [hw2]; exact heap_alloc_new w _
 have HC : Hid (∀ V, Below w2.heap.size w2 V → V.cell? ⟨w.heap.size, 0, none⟩ = some (.string ⟨bs.toArray⟩)) := fun V x => by
  have Bv := (x.block _ (lt_of_block B2)).trans B2
  rw [cell_of_row _ _ _ _ _ _ Bv]; rfl
 have HX2 := hide X2
 clear X2 B2
 unfold auV
 go_enter Tryz.func36, Tryz.ntmps36
 go_upto_region 1 with fail
 rw [← hw2]
 clear hw2
 go_upto_region 2 with (at_make; refine wpList_make_full _ rfl (.const (.int .i64 256)) (.const (.int .i64 256)) 86 rfl w2.heap.size 4 i4 (.bool false) 1 Tryz.underlying86 hi4 hz40 hz41 .i64 .i64 _ _ 256 rfl rfl rfl rfl (by rw [hz42]; decide) (by unfold maxLen; decide) (Nat.le_refl _) ?_; intro w3 m1 m2; have F3 := hide (((Fr.start w2).madeB m1 m2).bare 3); clear m1 m2)
 obtain ⟨gb, hgb⟩ : ∃ gb, gb = w2.heap.size := ⟨_, rfl⟩
 rw [← hgb] at F3 ⊢
 have HGB := hide hgb
 clear hgb
 go_wp2
 go_loopg [4, 5] 257 (fun g x y wr => ∃ (k : Nat) (L : List Nat) (B : List Bool), y = .int .i64 (k : Nat) ∧ k ≤ 256 ∧ Hid (Fr w2 [(.slice (some ⟨gb, 0, none⟩) 256 256, 4, bC B), (x, 3, nCells L)] wr) ∧ Hid (ClT (fun b => (bs.getD b 0).toNat) k B L) ∧ 256 - k < g)
 case atStart => exact ⟨0, [], List.replicate 256 false, rfl, by omega, F3, ClT.start, by omega⟩
 case round =>
  obtain ⟨k, L, B, rfl, hk1, F, S, hg⟩ := hrel
  have HG := hide hg
  clear hg F3
  by_cases hk : k < 256
  · have hkb : k < bs.length := by omega
    have hlb : (k : Int) < (bs.length : Int) := by omega
    have hk' : (k : Int) < 256 := by omega
    obtain ⟨y, hy⟩ : ∃ y, bs[k] = y := ⟨_, rfl⟩
    have hgy : ∀ hk, (⟨bs.toArray⟩ : ByteArray)[k]'hk = y := fun _ => hy
    have hyl : y.toNat < 256 := y.toNat_lt
    obtain ⟨z, hz⟩ : ∃ z, z = y.toNat := ⟨_, rfl⟩
    rw [← hz] at hyl
    have f2 : IntKind.i64.wrap ((y.toNat : Nat) : Int) = (z : Int) := by rw [← hz]; exact w64_n _ (by omega)
    have e : (bs.getD k 0).toNat = z := by rw [List.getD_eq_getElem?_getD, List.getElem?_eq_getElem hkb, hy, hz]; rfl
    have HOLD : Hid (gB B z = true → ClT (fun b => (bs.getD b 0).toNat) (k + 1) B L) := fun h => S.out.old (by simp only [e]; exact hyl) (by simp only [e]; exact h)
    have HNEW : Hid (ClT (fun b => (bs.getD b 0).toNat) (k + 1) (B.set z true) (L ++ [z])) := by have := S.out.new (by simp only [e]; exact hyl); unfold Hid; simpa only [e] using this
    have hbl := S.out.bl
    have hll := S.out.len
    have c0 := HC.out wr F.out.bel
    clear hy e hz
    obtain ⟨s0, s1⟩ := F.out.slotB (i := 0) (by simp) rfl (k := z) (by omega)
    have hzi : (z : Int) < 256 := by omega
    obtain ⟨fl, hfl⟩ : ∃ fl, fl = B.getD z false := ⟨_, rfl⟩
    rw [← hfl] at s0
    cases fl with
    | true =>
      have S2 := hide (HOLD.out hfl.symm)
      clear hfl
      go_wp2
      go_roundg (256 - (k + 1) + 1)
      case measure => have := HG.out; omega
      case rel => exact ⟨k + 1, L, B, by first | rfl | go_num | (congr 1; omega), by omega, F, S2, by omega⟩
    | false =>
      have F2 := hide (F.out.storeB (i := 0) (by simp) rfl z true)
      clear hfl
      go_upto_region 9 with fail
      obtain ⟨wq, hwq⟩ : ∃ wq, wq = wr.setCell ⟨gb, z, none⟩ (.bool true) := ⟨_, rfl⟩
      rw [← hwq] at F2 ⊢
      clear hwq s0 s1 c0
      obtain ⟨p1, p2, p3⟩ := F2.out.pre (i := 1) (by simp) rfl (z : Int)
      have P1 := hide p1
      have P2 := hide p2
      have P3 := hide p3
      have HPU : Hid (∀ v' w6, w6.ownsRow w2.heap.size 3 1 v' (L.length + 1) (nCells L ++ [.int .i64 (z : Int)]) → AppAt (wq.alloc (.cells #[.int .i64 (z : Int)] 3)) w6 u4 v' → Fr w2 [(.slice (some ⟨gb, 0, none⟩) 256 256, 4, bC (B.set z true)), (v', 3, nCells (L ++ [z]))] w6) := fun v' w6 g1 g2 => F2.out.push (i := 1) (by simp) rfl g1 g2
      clear p1 p2 p3
      go_upto_region 5 with (at_builtin; refine wpList_append_view rfl (.tmp 25) (.tmp 27) 22 rfl w2.heap.size 3 i3 (.int .i64 0) 1 8 Tryz.underlying22 hi3 hz30 hz31 hz32 rfl (by decide) _ L.length _ rfl P1.out ⟨wq.heap.size, 0, none⟩ 1 1 [.int .i64 (z : Int)] rfl rfl P2.out (by simp [Value.oneCell']) (by decide) (by unfold maxLen; omega) (by omega) P3.out ?_; intro v6 w6 g1 g2; have F6 := hide (HPU.out v6 w6 g1 g2); clear g1 g2)
      go_wp2
      go_roundg (256 - (k + 1) + 1)
      case measure => have := HG.out; omega
      case rel => exact ⟨k + 1, _, _, by first | rfl | go_num | (congr 1; omega), by omega, F6, HNEW, by omega⟩
  · obtain rfl : k = 256 := by omega
    have XW := hide (bt HX2.out F.out.bel (Nat.le_refl _))
    obtain ⟨ao, cap, rfl, hn⟩ := F.out.nat (i := 1) (by simp) rfl
    have HN := hide hn
    clear hn
    go_wp2
    go_ret
    exact ⟨⟨ao, cap, L, B, rfl, HN.out, S.out⟩, XW.out⟩
theorem MayA.w {bs : By} {NX OU : List Nat} (h : MayA bs NX OU) (hw : NX.length = OU.length * (mxL (ntL bs) + 1)) : NX.length / OU.length = mxL (ntL bs) + 1 := by
 rw [hw]; exact Nat.mul_div_cancel_left _ h.n0
theorem rchD_any (bs : By) (na oa ca : Option Addr) (nc oc cc W : Nat) (NX OU C : List Nat) (w : World) (hM : MayA bs NX OU) (hW : NX.length / OU.length = W) (hWm : W = mxL (ntL bs) + 1) (hC : ∀ c ∈ C, ∃ b, b < 256 ∧ (bs.getD b 0).toNat = c) (hCl : C.length ≤ 256) (hnx : NAt w na NX) (hca : NAt w ca C) :
 Calls Tryz.prog 37 #[auV bs na NX.length nc oa OU.length oc, .slice ca C.length cc] w fun e w' => (∃ (ao : Option Addr) (cap : Nat) (l : List Nat), e = .returned (.slice ao l.length cap) ∧ NAt w' ao l ∧ ∃ B, RhS (dfA bs NX OU) C B l l.length 0) ∧ Below w.heap.size w w' := by
 obtain ⟨i3, hi3, hz30, hz31, hz32⟩ := info_parts Tryz.info3n
 obtain ⟨i4, hi4, hz40, hz41, hz42⟩ := info_parts Tryz.info4n
 have hn0 := hM.n0
 have hn1 := hM.n1
 have hbl := hM.bl
 have hw1 := hM.w1
 rw [hW] at hw1
 have hxl := hM.nxl
 obtain ⟨w2, hw2⟩ : ∃ w2, w2 = w.alloc (.cells #[.string ⟨bs.toArray⟩, .slice na NX.length nc, .slice oa OU.length oc] 24) := ⟨_, rfl⟩
 have X2 : Below w.heap.size w w2 := by rw [hw2]; exact al (Below.refl _ _) _
 have B2 : w2.heap[w.heap.size]? = some (.cells #[.string ⟨bs.toArray⟩, .slice na NX.length nc, .slice oa OU.length oc] 24 (0, 0)) := by rw [hw2]; exact heap_alloc_new w _
 have HC : Hid (∀ V, Below w2.heap.size w2 V → V.cell? ⟨w.heap.size, 0, none⟩ = some (.string ⟨bs.toArray⟩) ∧ V.cell? ⟨w.heap.size, 1, none⟩ = some (.slice na NX.length nc) ∧ V.cell? ⟨w.heap.size, 2, none⟩ = some (.slice oa OU.length oc) ∧ NAt V na NX ∧ NAt V ca C) := fun V x => by
  have Bv := (x.block _ (lt_of_block B2)).trans B2
  have y := bt X2 x (Nat.le_refl _)
  exact ⟨by rw [cell_of_row _ _ _ _ _ _ Bv]; rfl, by rw [cell_of_row _ _ _ _ _ _ Bv]; rfl, by rw [cell_of_row _ _ _ _ _ _ Bv]; rfl, hnx.below y, hca.below y⟩
 have HX2 := hide X2
 have HM := hide hM
 have HCB := hide hC
 obtain ⟨c0, c1, c2, _⟩ := HC.out w2 (Below.refl _ _)
 have HWD := hide (wideD_any bs na oa NX.length nc OU.length oc w2 hbl)
 rw [← hWm] at HWD
 unfold auV at HWD
 have HW := hide hW
 clear X2 B2 hM hC hnx hca hW hWm
 unfold auV
 go_enter Tryz.func37, Tryz.ntmps37
 go_upto_region 1 with fail
 rw [← hw2]
 clear hw2
 go_upto_region 2 with (go_at_call 68; refine HWD.out.mono ?_; rintro e w3 ⟨rfl, x3⟩; have X3 := hide x3; clear x3)
 clear c0 c1 c2 HWD
 obtain ⟨c0, c1, c2, _⟩ := HC.out w3 X3.out
 go_upto_region 3 with (at_make; refine wpList_make_full _ rfl (.tmp 15) (.tmp 15) 86 rfl w3.heap.size 4 i4 (.bool false) 1 Tryz.underlying86 hi4 hz40 hz41 .i64 .i64 _ _ OU.length rfl rfl rfl rfl (by rw [hz42]; omega) (by unfold maxLen; omega) (Nat.le_refl _) ?_; intro w4 m1 m2; have F4 := hide ((Fr.start w3).madeB m1 m2); clear m1 m2)
 clear c0 c1 c2
 obtain ⟨gb, hgb⟩ : ∃ gb, gb = w3.heap.size := ⟨_, rfl⟩
 rw [← hgb] at F4 ⊢
 have HGB := hide hgb
 clear hgb
 obtain ⟨s0, s1⟩ := F4.out.slotB (i := 0) (by simp) rfl (k := 0) (by rw [List.length_replicate]; exact hn0)
 have F5 := hide (F4.out.storeB (i := 0) (by simp) rfl 0 true)
 have h0' : (0 : Int) < (OU.length : Int) := by omega
 go_upto_region 4 with fail
 obtain ⟨w5, hw5⟩ : ∃ w5, w5 = w4.setCell ⟨gb, 0, none⟩ (.bool true) := ⟨_, rfl⟩
 rw [← hw5] at F5 ⊢
 clear hw5 s0 s1 F4
 have F6 := hide (F5.out.cons (e := 3) (L := nCells [0]) (al (Below.refl w5.heap.size w5) (.cells #[.int .i64 0] 3)) (own_one w5 w3.heap.size 0 F5.out.bel.size) (fun b hb => by have e : w5.heap.size = b := Option.some.inj hb; omega))
 go_upto_region 5 with fail
 obtain ⟨w6, hw6⟩ : ∃ w6, w6 = w5.alloc (.cells #[.int .i64 0] 3) := ⟨_, rfl⟩
 obtain ⟨v0, hv0⟩ : ∃ v0 : Value, v0 = .slice (some ⟨w5.heap.size, 0, none⟩) 1 1 := ⟨_, rfl⟩
 rw [← hw6, ← hv0] at F6 ⊢
 clear hw6 hv0 F5
 have S0 : Hid (RhS (dfA bs NX OU) C ((List.replicate OU.length false).set 0 true) [0] 0 0) := RhS.start (D := dfA bs NX OU) hn0
 go_wp2
 go_loopg [7, 8] (OU.length + 1) (fun g x y wr => ∃ (k : Nat) (l : List Nat) (B : List Bool), y = .int .i64 (k : Nat) ∧ Hid (Fr w3 [(.slice (some ⟨gb, 0, none⟩) OU.length OU.length, 4, bC B), (x, 3, nCells l)] wr) ∧ Hid (RhS (dfA bs NX OU) C B l k 0) ∧ k ≤ l.length ∧ OU.length - k < g)
 case atStart => exact ⟨0, [0], _, rfl, F6, S0, by simp, by omega⟩
 case round =>
  obtain ⟨k, l, B, rfl, F, S, hkl, hg⟩ := hrel
  have HG := hide hg
  clear hg F6 S0
  have hfew : l.length ≤ OU.length := S.out.few
  by_cases hk : k < l.length
  · obtain ⟨la, lc, hv⟩ := F.out.shape (i := 1) (by simp) rfl
    rw [nCells_length] at hv
    subst hv
    have hk' : (k : Int) < (l.length : Int) := by omega
    go_wp2
    go_loopg [7, 9] (C.length + 1) (fun g x y wr => ∃ (j : Nat) (l : List Nat) (B : List Bool), y = .int .i64 (j : Nat) ∧ j ≤ C.length ∧ Hid (Fr w3 [(.slice (some ⟨gb, 0, none⟩) OU.length OU.length, 4, bC B), (x, 3, nCells l)] wr) ∧ Hid (RhS (dfA bs NX OU) C B l k j) ∧ k < l.length ∧ C.length - j < g)
    case atStart => exact ⟨0, l, B, rfl, by omega, F, S, hk, by omega⟩
    case round =>
     clear F S hk' hk hfew hkl
     obtain ⟨j, l, B, rfl, hjl, F, S, hk, hg⟩ := hrel
     have HG2 := hide hg
     clear hg
     have hfew : l.length ≤ OU.length := S.out.few
     have hbl : B.length = OU.length := S.out.bl
     obtain ⟨la, lc, hv⟩ := F.out.shape (i := 1) (by simp) rfl
     rw [nCells_length] at hv
     subst hv
     have hk' : (k : Int) < (l.length : Int) := by omega
     by_cases hj : j < C.length
     · have hj' : (j : Int) < (C.length : Int) := by omega
       obtain ⟨lg, e, -, -⟩ := F.out.cell (i := 1) (by simp) rfl (k := k) (by rw [nCells_length]; exact hk)
       subst e
       obtain ⟨s0, _⟩ := F.out.slotN (i := 1) (by simp) rfl (k := k) hk
       obtain ⟨c0, c1, c2, kx, kc⟩ := HC.out wr (bt X3.out F.out.bel (Nat.le_refl _))
       obtain ⟨cb, coff, rfl, _, sc⟩ := kc.get hj
       rw [← gN_lt hj] at sc
       have hs : gN l k < OU.length := S.out.lt _ (gN_mem hk)
       obtain ⟨b, hb, eb⟩ := HCB.out _ (gN_mem hj)
       have hc : gN C j < W := by
        rw [← eb, ← HW.out]; exact HM.out.bw b hb
       have hix : gN l k * W + gN C j < NX.length := by
        rw [HM.out.wl, HW.out]; exact at_lt hs hc
       obtain ⟨xb, xoff, rfl, _, sx⟩ := kx.get hix
       have hx : NX[gN l k * W + gN C j] < OU.length := HM.out.nl _ (List.getElem_mem hix)
       have ex : (dfA bs NX OU).nx (gN l k) (gN C j) = NX[gN l k * W + gN C j] := by
        show gN NX (gN l k * (NX.length / OU.length) + gN C j) = _
        rw [HW.out, gN_lt hix]
       have HOLD : Hid (gB B NX[gN l k * W + gN C j] = true → RhS (dfA bs NX OU) C B l k (j + 1)) := fun h => S.out.old (by rw [ex]; exact hx) (by rw [ex]; exact h)
       have HNEW : Hid (gB B NX[gN l k * W + gN C j] = false → RhS (dfA bs NX OU) C (B.set NX[gN l k * W + gN C j] true) (l ++ [NX[gN l k * W + gN C j]]) k (j + 1)) := fun h => by
        have := S.out.new hk ⟨b, hb, eb⟩ (by rw [ex]; exact hx) (by rw [ex]; exact h)
        rw [ex] at this
        exact this
       clear ex eb kx kc
       generalize NX[gN l k * W + gN C j] = x at *
       generalize gN l k = s at *
       generalize gN C j = c at *
       have hsW : s * W + c ≤ 16777216 := by omega
       have f1 : IntKind.i64.wrap ((s : Int) * (W : Int)) = ((s * W : Nat) : Int) := by rw [show (s : Int) * (W : Int) = ((s * W : Nat) : Int) by simp]; exact w64_n _ (by omega)
       generalize hm : s * W = m at *
       have f3 : IntKind.i64.wrap ((m : Int) + (c : Int)) = ((m + c : Nat) : Int) := by rw [show (m : Int) + (c : Int) = ((m + c : Nat) : Int) by simp]; exact w64_n _ (by omega)
       have hln : (m : Int) + (c : Int) < (NX.length : Int) := by omega
       have hlz : (0 : Int) ≤ (m : Int) + (c : Int) := by omega
       have hlt : ((m : Int) + (c : Int)).toNat = m + c := by omega
       clear hm
       go_wp2
       go_quiet (fail)
       obtain ⟨wq, hwq⟩ : ∃ wq, wq = wr.drewN nq := ⟨_, rfl⟩
       have FQ := hide (F.out.drew nq)
       rw [← hwq] at FQ ⊢
       clear hwq s0 c0 c1 c2 sc sx f1 f3 hln hlz hlt F S
       obtain ⟨s0, s1⟩ := FQ.out.slotB (i := 0) (by simp) rfl (k := x) (by omega)
       have hxi : (x : Int) < (OU.length : Int) := by omega
       obtain ⟨fl, hfl⟩ : ∃ fl, fl = B.getD x false := ⟨_, rfl⟩
       rw [← hfl] at s0
       cases fl with
       | true =>
         have S2 := hide (HOLD.out hfl.symm)
         clear hfl
         go_wp2
         go_roundg (C.length - (j + 1) + 1)
         case measure => have := HG2.out; omega
         case rel => exact ⟨j + 1, l, B, by first | rfl | go_num | (congr 1; omega), by omega, FQ, S2, hk, by omega⟩
       | false =>
         have S2 := hide (HNEW.out hfl.symm)
         have F2 := hide (FQ.out.storeB (i := 0) (by simp) rfl x true)
         clear hfl
         go_upto_region 14 with fail
         obtain ⟨wu, hwu⟩ : ∃ wu, wu = wq.setCell ⟨gb, x, none⟩ (.bool true) := ⟨_, rfl⟩
         rw [← hwu] at F2 ⊢
         clear hwu s0 s1
         obtain ⟨p1, p2, p3⟩ := F2.out.pre (i := 1) (by simp) rfl (x : Int)
         have P1 := hide p1
         have P2 := hide p2
         have P3 := hide p3
         have HPU : Hid (∀ v' w6, w6.ownsRow w3.heap.size 3 1 v' (l.length + 1) (nCells l ++ [.int .i64 (x : Int)]) → AppAt (wu.alloc (.cells #[.int .i64 (x : Int)] 3)) w6 (.slice (some ⟨lg, 0, none⟩) l.length lc) v' → Fr w3 [(.slice (some ⟨gb, 0, none⟩) OU.length OU.length, 4, bC (B.set x true)), (v', 3, nCells (l ++ [x]))] w6) := fun v' w6 g1 g2 => F2.out.push (i := 1) (by simp) rfl g1 g2
         clear p1 p2 p3
         go_upto_region 10 with (at_builtin; refine wpList_append_view rfl (.tmp 55) (.tmp 57) 22 rfl w3.heap.size 3 i3 (.int .i64 0) 1 8 Tryz.underlying22 hi3 hz30 hz31 hz32 rfl (by decide) _ l.length _ rfl P1.out ⟨wu.heap.size, 0, none⟩ 1 1 [.int .i64 (x : Int)] rfl rfl P2.out (by simp [Value.oneCell']) (by decide) (by unfold maxLen; omega) (by omega) P3.out ?_; intro v6 w6 g1 g2; have F6 := hide (HPU.out v6 w6 g1 g2); clear g1 g2)
         go_wp2
         go_roundg (C.length - (j + 1) + 1)
         case measure => have := HG2.out; omega
         case rel => exact ⟨j + 1, _, _, by first | rfl | go_num | (congr 1; omega), by omega, F6, S2, by simp; omega, by omega⟩
     · obtain rfl : j = C.length := by omega
       have S2 := hide (S.out.row)
       have hj' : ¬ (C.length : Int) < (C.length : Int) := by omega
       go_wp2
       go_roundg (OU.length - (k + 1) + 1)
       case measure => have := HG.out; omega
       case rel => exact ⟨k + 1, l, B, by first | rfl | go_num | (congr 1; omega), F, S2, by omega, by omega⟩
  · obtain rfl : k = l.length := by omega
    have XW := hide (bt HX2.out (bt X3.out F.out.bel (Nat.le_refl _)) (Nat.le_refl _))
    obtain ⟨ao, cap, rfl, hn⟩ := F.out.nat (i := 1) (by simp) rfl
    have HN := hide hn
    have hj' : ¬ (l.length : Int) < (l.length : Int) := by omega
    clear hn
    go_wp2
    go_ret
    exact ⟨⟨ao, cap, l, rfl, HN.out, B, S.out⟩, XW.out⟩
end Go.Proofs.YtdgoilkgplnhfaaGreat
