/-
  Marks laid into lists that came out, and blocks of other types, which stay. Of no program: no condition.
-/
import Derived.Test.YtkklphmhbbjmcaaKey
namespace Go.Proofs.Ytkklphmhbbjmcaa
open Go.RowKit Go.Lib

/-- Blocks of types outside Q stay. -/
def KeepQ (Q : TypeId → Prop) (w w' : World) : Prop := ∀ (k : Nat) (cs : Array Value) (T : TypeId) (f : Nat × Nat), ¬ Q T → w.heap[k]? = some (.cells cs T f) → w'.heap[k]? = some (.cells cs T f)
theorem KeepQ.refl (Q : TypeId → Prop) (w : World) : KeepQ Q w w := fun _ _ _ _ _ h => h
theorem KeepQ.trans {Q : TypeId → Prop} {a b c : World} (h : KeepQ Q a b) (h' : KeepQ Q b c) : KeepQ Q a c := fun k cs T f h1 h3 => h' k cs T f h1 (h k cs T f h1 h3)
theorem KeepQ.below {Q : TypeId → Prop} {a b : World} (h : Below a.heap.size a b) : KeepQ Q a b := fun k _ _ _ _ h3 => (h.block k (lt_of_block h3)).trans h3
theorem KeepQ.kept {Q : TypeId → Prop} {F : Nat → Prop} {a b : World} (h : Kept F a b) (hF : ∀ k, F k → ∃ cs T f, a.heap[k]? = some (.cells cs T f) ∧ Q T) : KeepQ Q a b := fun k cs T f h1 h3 => (h.block k (lt_of_block h3) (fun hf => by
  obtain ⟨cs', T', f', h4, h5⟩ := hF k hf
  rw [h3] at h4
  simp at h4
  exact h1 (by rw [h4.2.1]; exact h5))).trans h3
theorem KeepQ.own {Q : TypeId → Prop} {a b : World} {base size n : Nat} {e : TypeId} {v : Value} {xs : List Value} (ho : a.ownsRow base e size v n xs) (hq : Q e) (h : Kept (fun k => v.ownBlock = some k) a b) : KeepQ Q a b :=
  KeepQ.kept h (fun k hk => by obtain ⟨cs, h1⟩ := own_ty ho k hk; exact ⟨cs, e, _, h1, hq⟩)
theorem KeepQ.app {Q : TypeId → Prop} {a b : World} {base size n : Nat} {e : TypeId} {v v' : Value} {xs : List Value} (h : AppAt a b v v') (ho : a.ownsRow base e size v n xs) (hq : Q e) : KeepQ Q a b := by
  rcases h with ⟨g, h1, _, h3⟩ | ⟨h1, _⟩
  · exact KeepQ.own ho hq ((kept_of_grown h3).mono (fun k hk => h1.trans hk))
  · exact KeepQ.below (below_of_grown h1)
theorem own_keepQ {Q : TypeId → Prop} {w w' : World} {base size n : Nat} {e : TypeId} {v : Value} {xs : List Value} (h : w.ownsRow base e size v n xs) (hk : KeepQ Q w w') (hq : ¬ Q e) : w'.ownsRow base e size v n xs := by
  refine ⟨h.1, ?_⟩
  rcases h.2 with hn | ⟨g, cap, cur, rfl, hb', hg, r⟩
  · exact .inl hn
  · exact .inr ⟨g, cap, cur, rfl, hb', hk g _ _ _ hq hg, r⟩
theorem Vw.keepQ {Q : TypeId → Prop} {T : TypeId} {sz : Nat} {mc : Nat → List Value} {w w' : World} {v : Value} {n i : Nat} (h : Vw T sz mc w v n i) (hk : KeepQ Q w w') (hq : ¬ Q T) : Vw T sz mc w' v n i := by
  refine ⟨?_, fun k hb => ?_, h.le⟩
  · obtain ⟨ao, cap, rfl, h0 | ⟨g, rfl, hc⟩⟩ := h.shape
    · exact ⟨ao, cap, rfl, .inl h0⟩
    · obtain ⟨cs, h3⟩ := h.ty g rfl
      refine ⟨_, cap, rfl, .inr ⟨g, rfl, fun j hj => ?_⟩⟩
      rw [← hc j hj, cell_of_row _ _ _ _ _ _ h3, cell_of_row _ _ _ _ _ _ (hk g _ _ _ hq h3)]
  · obtain ⟨cs, h3⟩ := h.ty k hb
    exact ⟨cs, hk k _ _ _ hq h3⟩
section
variable {TS T : TypeId} {sz : Nat} {Q : TypeId → Prop}
theorem LsAt.keepQ {w w' : World} {base : Nat} {l : Value} {D : List LD} {X : Nat → List Value} (h : LsAt TS T sz w base l D X) (hk : KeepQ Q w w') (h1 : ¬ Q TS) (h2 : ¬ Q T) : LsAt TS T sz w' base l D X :=
  ⟨own_keepQ h.row hk h1, fun i hi => own_keepQ (h.each i hi) hk h2, h.apart⟩
end
/-- Values laid one behind the other. -/
def setL : List Value → Nat → List Value → List Value
  | xs, _, [] => xs
  | xs, o, v :: vs => setL (xs.set o v) (o + 1) vs
theorem setL_length : ∀ (vs xs : List Value) (o : Nat), (setL xs o vs).length = xs.length
  | [], _, _ => rfl
  | v :: vs, xs, o => by rw [setL, setL_length vs, List.length_set]
theorem setL_lo : ∀ (vs xs : List Value) (o j : Nat), j < o → (setL xs o vs)[j]? = xs[j]?
  | [], _, _, _, _ => rfl
  | v :: vs, xs, o, j, h => by rw [setL, setL_lo vs _ _ j (by omega), List.getElem?_set_ne (by omega)]
theorem setL_in : ∀ (vs xs : List Value) (o j : Nat), o ≤ j → j < o + vs.length → o + vs.length ≤ xs.length → (setL xs o vs)[j]? = vs[j - o]?
  | [], _, o, j, h, h2, _ => by simp at h2; omega
  | v :: vs, xs, o, j, h, h2, h3 => by
    rw [List.length_cons] at h2 h3
    rw [setL]
    by_cases hj : j = o
    · subst hj
      rw [setL_lo vs _ _ j (by omega), List.getElem?_set_self (by omega), Nat.sub_self]
      rfl
    · rw [setL_in vs _ _ j (by omega) (by omega) (by rw [List.length_set]; omega), show j - o = (j - (o + 1)) + 1 by omega, List.getElem?_cons_succ]
/-- The marks laid so far. -/
structure Mkg (TS T : TypeId) (sz : Nat) (mc : Nat → List Value) (w0 : World) (base : Nat) (l : Value) (D : List LD) (i k : Nat) (X : Nat → List Value) (w : World) : Prop where
  ls : LsAt TS T sz w base l D X
  done : ∀ i' (h : i' < D.length), i' < i → X i' = rep mc i' (D[i']).n
  part : ∀ j, j < k * sz → (X i)[j]? = (mc i)[j % sz]?
  below : Below base w0 w
  keep : KeepQ (fun t => t = T) w0 w
  kd : Kept (fun k => FutL D 0 k) w0 w
section
variable {TS T : TypeId} {sz : Nat} {mc : Nat → List Value}
theorem Mkg.start {w : World} {base : Nat} {l : Value} {D : List LD} {X : Nat → List Value} (h : LsAt TS T sz w base l D X) : Mkg TS T sz mc w base l D 0 0 X w :=
  ⟨h, fun i' _ h => by omega, fun j h => by omega, Below.refl _ _, KeepQ.refl _ _, Kept.refl _ _⟩
theorem Mkg.step (hmc : ∀ i, (mc i).length = sz) (hne : TS ≠ T) {w0 w w' : World} {base : Nat} {l : Value} {D : List LD} {i k : Nat} {X : Nat → List Value} (h : Mkg TS T sz mc w0 base l D i k X w) (hi : i < D.length) (hk : k < (D[i]).n)
    (h1 : w'.ownsRow base T sz (D[i]).v (D[i]).n (setL (X i) (k * sz) (mc i))) (h2 : Kept (fun j => (D[i]).v.ownBlock = some j) w w') (hbw : base ≤ w0.heap.size) : ∃ X', Mkg TS T sz mc w0 base l D i (k + 1) X' w' := by
  have hh := h.ls.each i hi
  have hl := hh.1
  have hkn : (k + 1) * sz ≤ (D[i]).n * sz := Nat.mul_le_mul_right sz hk
  rw [Nat.succ_mul] at hkn
  refine ⟨fun j => if j = i then setL (X i) (k * sz) (mc i) else X j, h.ls.turned hne hi h1 h2, fun i' hi' hlt => ?_, fun j hj => ?_, ?_, h.keep.trans (KeepQ.own hh rfl h2), h.kd.trans (h2.mono (fun j hj => ⟨i, hi, Nat.zero_le _, hj⟩))⟩
  · simp only [show ¬ i' = i by omega, if_false]
    exact h.done i' hi' hlt
  · simp only [if_true]
    rw [Nat.succ_mul] at hj
    by_cases hj2 : j < k * sz
    · rw [setL_lo _ _ _ _ hj2]
      exact h.part j hj2
    · rw [setL_in _ _ _ _ (by omega) (by rw [hmc]; omega) (by rw [hmc]; omega)]
      congr 1
      obtain ⟨d, rfl⟩ : ∃ d, j = k * sz + d := ⟨j - k * sz, by omega⟩
      rw [Nat.mul_comm k sz, Nat.mul_add_mod, Nat.mod_eq_of_lt (by omega)]
      omega
  · exact h.below.trans (h2.below (Nat.le_trans hbw h.below.size) (fun j hj => (World.ownsRow.lt hh j hj).1))
theorem Mkg.next (hmc : ∀ i, (mc i).length = sz) {w0 w : World} {base : Nat} {l : Value} {D : List LD} {i : Nat} {X : Nat → List Value} (hi : i < D.length) (h : Mkg TS T sz mc w0 base l D i (D[i]).n X w) : Mkg TS T sz mc w0 base l D (i + 1) 0 X w := by
  refine ⟨h.ls, fun i' h1 h2 => ?_, fun j hj => by omega, h.below, h.keep, h.kd⟩
  rcases Nat.lt_or_ge i' i with h3 | h3
  · exact h.done i' h1 h3
  · obtain rfl : i' = i := by omega
    have hl := (h.ls.each i' hi).1
    apply List.ext_getElem?
    intro j
    by_cases hj : j < (D[i']).n * sz
    · rw [h.part j hj, rep_get hmc i' _ j hj]
    · rw [List.getElem?_eq_none (by omega), List.getElem?_eq_none (by rw [rep_length hmc]; omega)]
theorem Mkg.out {w0 w : World} {base : Nat} {l : Value} {D : List LD} {X : Nat → List Value} (h : Mkg TS T sz mc w0 base l D D.length 0 X w) : LsAt TS T sz w base l D (fun i => rep mc i ((D[i]?.map LD.n).getD 0)) := by
  refine ⟨h.ls.row, fun i hi => ?_, h.ls.apart⟩
  have := h.ls.each i hi
  rw [h.done i hi hi] at this
  simpa [hi] using this
end
end Go.Proofs.Ytkklphmhbbjmcaa
