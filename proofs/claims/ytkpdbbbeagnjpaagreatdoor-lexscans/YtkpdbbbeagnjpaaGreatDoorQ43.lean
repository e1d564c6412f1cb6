/-
  Marks laid into lists that came out, and blocks of other types, which stay. Of no program: no condition.
-/
import Derived.Test.YtkpdbbbeagnjpaaGreatDoorQ03
import Derived.Test.YtkpdbbbeagnjpaaGreatDoorQ32
import Derived.Test.YtkpdbbbeagnjpaaGreatDoorQ05
import Derived.Deep.RegionHeld3
namespace Go.Proofs.YtkpdbbbeagnjpaaGreatDoor
open Go.RowKit Go.Lib

/-- Blocks of types outside Q stay. -/
def KeepT (Q : TypeId → Prop) (w w' : World) : Prop := ∀ (k : Nat) (cs : Array Value) (T : TypeId) (f : Nat × Nat), ¬ Q T → w.heap[k]? = some (.cells cs T f) → w'.heap[k]? = some (.cells cs T f)
theorem KeepT.refl (Q : TypeId → Prop) (w : World) : KeepT Q w w := fun _ _ _ _ _ h => h
theorem KeepT.trans {Q : TypeId → Prop} {a b c : World} (h : KeepT Q a b) (h' : KeepT Q b c) : KeepT Q a c := fun k cs T f h1 h3 => h' k cs T f h1 (h k cs T f h1 h3)
theorem KeepT.below {Q : TypeId → Prop} {a b : World} (h : Below a.heap.size a b) : KeepT Q a b := fun k _ _ _ _ h3 => (h.block k (lt_of_block h3)).trans h3
theorem KeepT.kept {Q : TypeId → Prop} {F : Nat → Prop} {a b : World} (h : Kept F a b) (hF : ∀ k, F k → ∃ cs T f, a.heap[k]? = some (.cells cs T f) ∧ Q T) : KeepT Q a b := fun k cs T f h1 h3 => (h.block k (lt_of_block h3) (fun hf => by
  obtain ⟨cs', T', f', h4, h5⟩ := hF k hf
  rw [h3] at h4
  simp at h4
  exact h1 (by rw [h4.2.1]; exact h5))).trans h3
theorem KeepT.own {Q : TypeId → Prop} {a b : World} {base size n : Nat} {e : TypeId} {v : Value} {xs : List Value} (ho : a.ownsRow base e size v n xs) (hq : Q e) (h : Kept (fun k => v.ownBlock = some k) a b) : KeepT Q a b :=
  KeepT.kept h (fun k hk => by obtain ⟨cs, h1⟩ := own_ty ho k hk; exact ⟨cs, e, _, h1, hq⟩)
theorem KeepT.app {Q : TypeId → Prop} {a b : World} {base size n : Nat} {e : TypeId} {v v' : Value} {xs : List Value} (h : AppAt a b v v') (ho : a.ownsRow base e size v n xs) (hq : Q e) : KeepT Q a b := by
  rcases h with ⟨g, h1, _, h3⟩ | ⟨h1, _⟩
  · exact KeepT.own ho hq ((kept_of_grown h3).mono (fun k hk => h1.trans hk))
  · exact KeepT.below (below_of_grown h1)
theorem own_keepT {Q : TypeId → Prop} {w w' : World} {base size n : Nat} {e : TypeId} {v : Value} {xs : List Value} (h : w.ownsRow base e size v n xs) (hk : KeepT Q w w') (hq : ¬ Q e) : w'.ownsRow base e size v n xs := by
  refine ⟨h.1, ?_⟩
  rcases h.2 with hn | ⟨g, cap, cur, rfl, hb', hg, r⟩
  · exact .inl hn
  · exact .inr ⟨g, cap, cur, rfl, hb', hk g _ _ _ hq hg, r⟩
theorem Vw.keepT {Q : TypeId → Prop} {T : TypeId} {sz : Nat} {mc : Nat → List Value} {w w' : World} {v : Value} {n i : Nat} (h : Vw T sz mc w v n i) (hk : KeepT Q w w') (hq : ¬ Q T) : Vw T sz mc w' v n i := by
  refine ⟨?_, fun k hb => ?_, h.le⟩
  · obtain ⟨ao, cap, rfl, h0 | ⟨g, rfl, hc⟩⟩ := h.shape
    · exact ⟨ao, cap, rfl, .inl h0⟩
    · obtain ⟨cs, h3⟩ := h.ty g rfl
      refine ⟨_, cap, rfl, .inr ⟨g, rfl, fun j hj => ?_⟩⟩
      rw [← hc j hj, cell_of_row _ _ _ _ _ _ h3, cell_of_row _ _ _ _ _ _ (hk g _ _ _ hq h3)]
  · obtain ⟨cs, h3⟩ := h.ty k hb
    exact ⟨cs, hk k _ _ _ hq h3⟩
section
variable {K : Nat} {TS T : TypeId} {sz : Nat} {mc : Nat → List Value} {Q : TypeId → Prop}
theorem LsAt.keepT {w w' : World} {base : Nat} {l : Value} {D : List LD} {X : Nat → List Value} (h : LsAt TS T sz w base l D X) (hk : KeepT Q w w') (h1 : ¬ Q TS) (h2 : ¬ Q T) : LsAt TS T sz w' base l D X :=
  ⟨own_keepT h.row hk h1, fun i hi => own_keepT (h.each i hi) hk h2, h.apart⟩
theorem KrO.keepT {w w' : World} {base : Nat} {l o : Value} {D A : List LD} {i : Nat} (h : KrO K TS T sz mc w base l o D A i) (hk : KeepT Q w w') (h1 : ¬ Q TS) (h2 : ¬ Q T) : KrO K TS T sz mc w' base l o D A i :=
  ⟨own_keepT h.row hk h1, own_keepT h.all hk h1, h.ol, h.len, fun j hj => ⟨(h.views j hj).1.keepT hk h2, (h.views j hj).2⟩, fun i' a b => own_keepT (h.lists i' a b) hk h2, h.apart⟩
end
/-- Values laid one behind the other. -/
def setL : List Value → Nat → List Value → List Value
  | xs, _, [] => xs
  | xs, o, v :: vs => setL (xs.set o v) (o + 1) vs
theorem setL_length : ∀ (vs xs : List Value) (o : Nat), (setL xs o vs).length = xs.length
  | [], _, _ => rfl
  | v :: vs, xs, o => by rw [setL, setL_length vs, List.length_set]
theorem setL_lo : ∀ (vs xs : List Value) (o j : Nat), j < o → (setL xs o vs)[j]? = xs[j]?
  | [], _, _, _, _ => rfl
  | v :: vs, xs, o, j, h => by rw [setL, setL_lo vs _ _ j (by omega), List.getElem?_set_ne (by omega)]
theorem setL_in : ∀ (vs xs : List Value) (o j : Nat), o ≤ j → j < o + vs.length → o + vs.length ≤ xs.length → (setL xs o vs)[j]? = vs[j - o]?
  | [], _, o, j, h, h2, _ => by simp at h2; omega
  | v :: vs, xs, o, j, h, h2, h3 => by
    rw [List.length_cons] at h2 h3
    rw [setL]
    by_cases hj : j = o
    · subst hj
      rw [setL_lo vs _ _ j (by omega), List.getElem?_set_self (by omega), Nat.sub_self]
      rfl
    · rw [setL_in vs _ _ j (by omega) (by omega) (by rw [List.length_set]; omega), show j - o = (j - (o + 1)) + 1 by omega, List.getElem?_cons_succ]
/-- The marks laid so far. -/
structure Mkg (TS T : TypeId) (sz : Nat) (mc : Nat → List Value) (w0 : World) (base : Nat) (l : Value) (D : List LD) (i k : Nat) (X : Nat → List Value) (w : World) : Prop where
  ls : LsAt TS T sz w base l D X
  done : ∀ i' (h : i' < D.length), i' < i → X i' = rep mc i' (D[i']).n
  part : ∀ j, j < k * sz → (X i)[j]? = (mc i)[j % sz]?
  below : Below base w0 w
  keep : KeepT (fun t => t = T) w0 w
section
variable {TS T : TypeId} {sz : Nat} {mc : Nat → List Value}
theorem Mkg.start {w : World} {base : Nat} {l : Value} {D : List LD} {X : Nat → List Value} (h : LsAt TS T sz w base l D X) : Mkg TS T sz mc w base l D 0 0 X w :=
  ⟨h, fun i' _ h => by omega, fun j h => by omega, Below.refl _ _, KeepT.refl _ _⟩
theorem Mkg.step (hmc : ∀ i, (mc i).length = sz) (hne : TS ≠ T) {w0 w w' : World} {base : Nat} {l : Value} {D : List LD} {i k : Nat} {X : Nat → List Value} (h : Mkg TS T sz mc w0 base l D i k X w) (hi : i < D.length) (hk : k < (D[i]).n)
    (h1 : w'.ownsRow base T sz (D[i]).v (D[i]).n (setL (X i) (k * sz) (mc i))) (h2 : Kept (fun j => (D[i]).v.ownBlock = some j) w w') (hbw : base ≤ w0.heap.size) : ∃ X', Mkg TS T sz mc w0 base l D i (k + 1) X' w' := by
  have hh := h.ls.each i hi
  have hl := hh.1
  have hkn : (k + 1) * sz ≤ (D[i]).n * sz := Nat.mul_le_mul_right sz hk
  rw [Nat.succ_mul] at hkn
  refine ⟨fun j => if j = i then setL (X i) (k * sz) (mc i) else X j, h.ls.turned hne hi h1 h2, fun i' hi' hlt => ?_, fun j hj => ?_, ?_, h.keep.trans (KeepT.own hh rfl h2)⟩
  · simp only [show ¬ i' = i by omega, if_false]
    exact h.done i' hi' hlt
  · simp only [if_true]
    rw [Nat.succ_mul] at hj
    by_cases hj2 : j < k * sz
    · rw [setL_lo _ _ _ _ hj2]
      exact h.part j hj2
    · rw [setL_in _ _ _ _ (by omega) (by rw [hmc]; omega) (by rw [hmc]; omega)]
      congr 1
      obtain ⟨d, rfl⟩ : ∃ d, j = k * sz + d := ⟨j - k * sz, by omega⟩
      rw [Nat.mul_comm k sz, Nat.mul_add_mod, Nat.mod_eq_of_lt (by omega)]
      omega
  · exact h.below.trans (h2.below (Nat.le_trans hbw h.below.size) (fun j hj => (World.ownsRow.lt hh j hj).1))
theorem Mkg.next (hmc : ∀ i, (mc i).length = sz) {w0 w : World} {base : Nat} {l : Value} {D : List LD} {i : Nat} {X : Nat → List Value} (hi : i < D.length) (h : Mkg TS T sz mc w0 base l D i (D[i]).n X w) : Mkg TS T sz mc w0 base l D (i + 1) 0 X w := by
  refine ⟨h.ls, fun i' h1 h2 => ?_, fun j hj => by omega, h.below, h.keep⟩
  rcases Nat.lt_or_ge i' i with h3 | h3
  · exact h.done i' h1 h3
  · obtain rfl : i' = i := by omega
    have hl := (h.ls.each i' hi).1
    apply List.ext_getElem?
    intro j
    by_cases hj : j < (D[i']).n * sz
    · rw [h.part j hj, rep_get hmc i' _ j hj]
    · rw [List.getElem?_eq_none (by omega), List.getElem?_eq_none (by rw [rep_length hmc]; omega)]
theorem Mkg.out {w0 w : World} {base : Nat} {l : Value} {D : List LD} {X : Nat → List Value} (h : Mkg TS T sz mc w0 base l D D.length 0 X w) : LsAt TS T sz w base l D (fun i => rep mc i ((D[i]?.map LD.n).getD 0)) := by
  refine ⟨h.ls.row, fun i hi => ?_, h.ls.apart⟩
  have := h.ls.each i hi
  rw [h.done i hi hi] at this
  simpa [hi] using this
end
/-- Two cells of a row, stored. -/
theorem row_st2 {w : World} {base n cap g : Nat} {T : TypeId} {xs : List Value} (h : w.ownsRow base T 2 (.slice (some ⟨g, 0, none⟩) n cap) n xs) {k : Nat} (hk : k < n) (a b : Value) :
    (∃ u, w.cell? ⟨g, k * 2, none⟩ = some u) ∧ w.frozen? ⟨g, k * 2, none⟩ = false ∧ (∃ u, (w.setCell ⟨g, k * 2, none⟩ a).cell? ⟨g, k * 2 + 1, none⟩ = some u) ∧ (w.setCell ⟨g, k * 2, none⟩ a).frozen? ⟨g, k * 2 + 1, none⟩ = false ∧
    ((w.setCell ⟨g, k * 2, none⟩ a).setCell ⟨g, k * 2 + 1, none⟩ b).ownsRow base T 2 (.slice (some ⟨g, 0, none⟩) n cap) n (setL xs (k * 2) [a, b]) ∧ Kept (fun j => some g = some j) w ((w.setCell ⟨g, k * 2, none⟩ a).setCell ⟨g, k * 2 + 1, none⟩ b) := by
  have hl := h.1
  obtain ⟨h3, h4⟩ := h.stored (k * 2) a
  obtain ⟨h5, h6⟩ := h3.stored (k * 2 + 1) b
  refine ⟨⟨xs[k * 2]'(by omega), ?_⟩, h.frozenAt _, ⟨(xs.set (k * 2) a)[k * 2 + 1]'(by rw [List.length_set]; omega), ?_⟩, h3.frozenAt _, h5, (kept_of_grown h4).trans (kept_of_grown h6)⟩
  · rw [h.cellAt (k * 2) (by omega)]; exact List.getElem?_eq_getElem _
  · rw [h3.cellAt (k * 2 + 1) (by omega)]; exact List.getElem?_eq_getElem _
/-- Four cells of a row, stored. -/
theorem row_st4 {w : World} {base n cap g : Nat} {T : TypeId} {xs : List Value} (h : w.ownsRow base T 4 (.slice (some ⟨g, 0, none⟩) n cap) n xs) {k : Nat} (hk : k < n) (a b c d : Value) :
    (∃ u, w.cell? ⟨g, k * 4, none⟩ = some u) ∧ w.frozen? ⟨g, k * 4, none⟩ = false ∧ (∃ u, (w.setCell ⟨g, k * 4, none⟩ a).cell? ⟨g, k * 4 + 1, none⟩ = some u) ∧ (w.setCell ⟨g, k * 4, none⟩ a).frozen? ⟨g, k * 4 + 1, none⟩ = false ∧
    (∃ u, ((w.setCell ⟨g, k * 4, none⟩ a).setCell ⟨g, k * 4 + 1, none⟩ b).cell? ⟨g, k * 4 + 2, none⟩ = some u) ∧ ((w.setCell ⟨g, k * 4, none⟩ a).setCell ⟨g, k * 4 + 1, none⟩ b).frozen? ⟨g, k * 4 + 2, none⟩ = false ∧
    (∃ u, (((w.setCell ⟨g, k * 4, none⟩ a).setCell ⟨g, k * 4 + 1, none⟩ b).setCell ⟨g, k * 4 + 2, none⟩ c).cell? ⟨g, k * 4 + 3, none⟩ = some u) ∧ (((w.setCell ⟨g, k * 4, none⟩ a).setCell ⟨g, k * 4 + 1, none⟩ b).setCell ⟨g, k * 4 + 2, none⟩ c).frozen? ⟨g, k * 4 + 3, none⟩ = false ∧
    ((((w.setCell ⟨g, k * 4, none⟩ a).setCell ⟨g, k * 4 + 1, none⟩ b).setCell ⟨g, k * 4 + 2, none⟩ c).setCell ⟨g, k * 4 + 3, none⟩ d).ownsRow base T 4 (.slice (some ⟨g, 0, none⟩) n cap) n (setL xs (k * 4) [a, b, c, d]) ∧ Kept (fun j => some g = some j) w ((((w.setCell ⟨g, k * 4, none⟩ a).setCell ⟨g, k * 4 + 1, none⟩ b).setCell ⟨g, k * 4 + 2, none⟩ c).setCell ⟨g, k * 4 + 3, none⟩ d) := by
  have hl := h.1
  obtain ⟨h3, h4⟩ := h.stored (k * 4) a
  obtain ⟨h5, h6⟩ := h3.stored (k * 4 + 1) b
  obtain ⟨h7, h8⟩ := h5.stored (k * 4 + 2) c
  obtain ⟨h9, h10⟩ := h7.stored (k * 4 + 3) d
  refine ⟨⟨xs[k * 4]'(by omega), ?_⟩, h.frozenAt _, ⟨(xs.set (k * 4) a)[k * 4 + 1]'(by rw [List.length_set]; omega), ?_⟩, h3.frozenAt _, ⟨((xs.set (k * 4) a).set (k * 4 + 1) b)[k * 4 + 2]'(by rw [List.length_set, List.length_set]; omega), ?_⟩, h5.frozenAt _, ⟨(((xs.set (k * 4) a).set (k * 4 + 1) b).set (k * 4 + 2) c)[k * 4 + 3]'(by rw [List.length_set, List.length_set, List.length_set]; omega), ?_⟩, h7.frozenAt _, h9, (((kept_of_grown h4).trans (kept_of_grown h6)).trans (kept_of_grown h8)).trans (kept_of_grown h10)⟩
  · rw [h.cellAt (k * 4) (by omega)]; exact List.getElem?_eq_getElem _
  · rw [h3.cellAt (k * 4 + 1) (by omega)]; exact List.getElem?_eq_getElem _
  · rw [h5.cellAt (k * 4 + 2) (by omega)]; exact List.getElem?_eq_getElem _
  · rw [h7.cellAt (k * 4 + 3) (by omega)]; exact List.getElem?_eq_getElem _
end Go.Proofs.YtkpdbbbeagnjpaaGreatDoor
/-
  same by its contract, of tokens that are the same. Condition: at most 2^32.
-/
namespace Go.Proofs.YtkpdbbbeagnjpaaGreatDoor
open Go.RowKit Go.Lib

set_option maxHeartbeats 1000000 in
set_option maxRecDepth 100000 in
theorem same_any (L : List Tk) (va vb : Value) (base base2 : Nat) (w : World) (ha : w.ownsRow base 40 6 va L.length (tkC L)) (hb : w.ownsRow base2 40 6 vb L.length (tkC L)) (hl : L.length ≤ 4294967296) :
    Calls Tryz.prog 10 #[va, vb] w fun e w' => e = .returned (.bool true) ∧ Below w.heap.size w w' := by
  obtain ⟨ao, ca, e1, ga⟩ := own_shape ha
  obtain ⟨bo, cb, e2, gb⟩ := own_shape hb
  subst e1 e2
  have HA := hide ha
  have HB := hide hb
  have GA := hide ga
  have GB := hide gb
  clear ha hb ga gb
  go_enter Tryz.func10, Tryz.ntmps10
  go_wp2
  go_loopg [5] (L.length + 1) (fun g x wr => ∃ i : Nat, x = .int .i64 (i : Nat) ∧ i ≤ L.length ∧ Hid (Below w.heap.size w wr) ∧ L.length - i < g)
  case atStart => exact ⟨0, rfl, by omega, Below.refl _ _, by omega⟩
  case round =>
    obtain ⟨i, rfl, hi1, XR, hg⟩ := hrel
    have HG := hide hg
    clear hg
    by_cases hi : i < L.length
    · have hi' : (i : Int) < (L.length : Int) := by omega
      obtain ⟨g1, hg1⟩ := GA.out (by omega)
      obtain ⟨g2, hg2⟩ := GB.out (by omega)
      subst hg1 hg2
      obtain ⟨x, hx⟩ : ∃ x, L[i] = x := ⟨_, rfl⟩
      have hE : ∀ W, (Op.equalIn 10000 40 (.agg #[.int .i64 x.k, .string ⟨x.t.toArray⟩, .int .i64 x.n, .int .i64 x.a, .int .i64 x.b, .int .i64 x.p]) (.agg #[.int .i64 x.k, .string ⟨x.t.toArray⟩, .int .i64 x.n, .int .i64 x.a, .int .i64 x.b, .int .i64 x.p])).run Tryz.prog W = .ok true W := fun W => eq40 x W
      have XD := hide (Below.drew XR.out)
      obtain ⟨a0, a1, a2, a3, a4, a5⟩ := tk_at (own_below HA.out XD.out) hi hx
      obtain ⟨b0, b1, b2, b3, b4, b5⟩ := tk_at (own_below HB.out XD.out) hi hx
      have f1 : IntKind.i64.wrap ((i : Int) + 1) = (i : Int) + 1 := by rw [show (i : Int) + 1 = ((i + 1 : Nat) : Int) by simp]; simp [IntKind.wrap, IntKind.bits, IntKind.signed]; omega
      clear hx
      go_upto_region 6 with fail
      go_region
      all_goals
        clear a0 a1 a2 a3 a4 a5 b0 b1 b2 b3 b4 b5
        go_wp2
        go_roundg (L.length - (i + 1) + 1)
        case measure => have := HG.out; omega
        case rel => exact ⟨i + 1, by first | rfl | go_num | (congr 1; omega), by omega, XD, by omega⟩
    · obtain rfl : i = L.length := by omega
      have hi' : ¬ (L.length : Int) < (L.length : Int) := by omega
      go_wp2
      go_ret
      exact ⟨rfl, XR.out⟩
end Go.Proofs.YtkpdbbbeagnjpaaGreatDoor
