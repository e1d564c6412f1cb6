/-
  slices.Reverse of bytes by its contract. Condition: at most 2^32 bytes.
-/
import Derived.Test.YtdgoilkgplnhfaaGreatB12
import Derived.Test.YtdgoilkgplnhfaaGreatB31
import Derived.Test.YtdgoilkgplnhfaaGreatB05
namespace Go.Proofs.YtdgoilkgplnhfaaGreat
open Go.RowKit Go.Lib

theorem OwnU.slot' {w : World} {base g n cap : Nat} {L : List Nat} (h : OwnU w base (.slice (some ⟨g, 0, none⟩) n cap) L) {i : Nat} (hi : i < L.length) : w.cell? ⟨g, i, none⟩ = some (.int .u8 ((gN L i : Nat) : Int)) ∧ w.frozen? ⟨g, i, none⟩ = false := by
  have hh : w.ownsRow base 5 1 (.slice (some ⟨g, 0, none⟩) n cap) L.length (uCells L) := h
  have hn : n = L.length := by
    rcases hh.2 with ⟨e, e2⟩ | ⟨g', c', cur, e, _⟩
    · cases e
    · injection e with _ e2 _
  subst hn
  refine ⟨?_, hh.frozenAt _⟩
  rw [hh.cellAt i (by omega), gN_lt hi]
  simp [uCells, hi]
theorem OwnU.store' {w : World} {base g cap n : Nat} {L : List Nat} (h : OwnU w base (.slice (some ⟨g, 0, none⟩) n cap) L) (i x : Nat) : OwnU (w.setCell ⟨g, i, none⟩ (.int .u8 (x : Int))) base (.slice (some ⟨g, 0, none⟩) n cap) (L.set i x) ∧ Kept (fun k => k = g) w (w.setCell ⟨g, i, none⟩ (.int .u8 (x : Int))) := by
  have hh : w.ownsRow base 5 1 (.slice (some ⟨g, 0, none⟩) n cap) L.length (uCells L) := h
  have hn : n = L.length := by
    rcases hh.2 with ⟨e, e2⟩ | ⟨g', c', cur, e, _⟩
    · cases e
    · injection e with _ e2 _
  subst hn
  obtain ⟨h1, h2⟩ := hh.stored i (.int .u8 (x : Int))
  refine ⟨?_, (kept_of_grown h2).mono (fun k hk => by injection hk with hk; exact hk.symm)⟩
  unfold OwnU
  rw [List.length_set, show uCells (L.set i x) = (uCells L).set i (.int .u8 (x : Int)) by simp [uCells, List.map_set]]
  exact h1
/-- k of them turned from each end. -/
def Rvk (L R : List Nat) (k : Nat) : Prop := R.length = L.length ∧ ∀ q, q < L.length → gN R q = if q < k ∨ L.length - k ≤ q then gN L (L.length - 1 - q) else gN L q
theorem gN_setR (L : List Nat) (i x q : Nat) (h : q < L.length) : gN (L.set i x) q = if i = q then x else gN L q := by
  rw [gN_lt (by rw [List.length_set]; exact h), gN_lt h, List.getElem_set]
theorem Rvk.next {L R : List Nat} {k : Nat} (h : Rvk L R k) (hk : k < L.length - 1 - k) : Rvk L ((R.set k (gN R (L.length - 1 - k))).set (L.length - 1 - k) (gN R k)) (k + 1) := by
  refine ⟨by rw [List.length_set, List.length_set, h.1], fun q hq => ?_⟩
  have hR := h.1
  rw [gN_setR _ _ _ _ (by rw [List.length_set, hR]; exact hq), gN_setR _ _ _ _ (by rw [hR]; exact hq)]
  have h1 := h.2 k (by omega)
  have h2 := h.2 (L.length - 1 - k) (by omega)
  rw [if_neg (by omega)] at h1 h2
  by_cases e1 : L.length - 1 - k = q
  · rw [if_pos e1, if_pos (by omega), h1]
    congr 1
    omega
  · rw [if_neg e1]
    by_cases e2 : k = q
    · rw [if_pos e2, if_pos (by omega), h2]
      congr 1
      omega
    · rw [if_neg e2, h.2 q hq]
      by_cases h3 : q < k ∨ L.length - k ≤ q
      · rw [if_pos h3, if_pos (by omega)]
      · rw [if_neg h3, if_neg (by omega)]
theorem Rvk.done {L R : List Nat} {k : Nat} (h : Rvk L R k) (hk : ¬ (k : Int) < (L.length : Int) - 1 - k) : R = L.reverse := by
  apply List.ext_getElem
  · rw [h.1, List.length_reverse]
  · intro q h1 h2
    have hq : q < L.length := by rw [← h.1]; exact h1
    have h3 := h.2 q hq
    rw [gN_lt h1] at h3
    rw [h3, List.getElem_reverse]
    split
    · exact gN_lt _
    · rw [gN_lt hq]
      congr 1
      omega
set_option maxRecDepth 100000 in
set_option maxHeartbeats 4000000 in
theorem reverse_any (base g cap : Nat) (L : List Nat) (w : World) (hl : L.length ≤ 4294967296) (ho : OwnU w base (.slice (some ⟨g, 0, none⟩) L.length cap) L) :
    Calls Tryz.prog 101 #[.slice (some ⟨g, 0, none⟩) L.length cap] w fun e w' => e = .returned (.tuple #[]) ∧ OwnU w' base (.slice (some ⟨g, 0, none⟩) L.length cap) L.reverse ∧ Kept (fun k => k = g) w w' := by
  have HO := hide ho
  have hg := (World.ownsRow.lt (show w.ownsRow base 5 1 (.slice (some ⟨g, 0, none⟩) L.length cap) L.length (uCells L) from ho) g rfl).2
  have HR0 : Hid (Rvk L L 0) := ⟨rfl, fun q hq => by rw [if_neg (by omega)]⟩
  have w0 : IntKind.i64.wrap ((L.length : Int) - 1) = (L.length : Int) - 1 := by simp [IntKind.wrap, IntKind.bits, IntKind.signed]; omega
  clear ho
  go_enter Tryz.func101, Tryz.ntmps101
  go_wp2
  go_loopg [2, 3] (L.length + 1) (fun gg x y wr => ∃ (k : Nat) (R : List Nat), x = .int .i64 (k : Nat) ∧ y = .int .i64 ((L.length : Int) - 1 - (k : Int)) ∧ Hid (OwnU wr base (.slice (some ⟨g, 0, none⟩) L.length cap) R) ∧ Hid (Rvk L R k) ∧ Hid (Kept (fun k => k = g) w wr) ∧ k ≤ L.length ∧ L.length - k < gg)
  case atStart => exact ⟨0, L, rfl, by congr 1; simp, HO, HR0, Kept.refl _ _, by omega, by omega⟩
  case round =>
    obtain ⟨k, R, rfl, rfl, O, RV, KP, hk, hgg⟩ := hrel
    have HG := hide hgg
    clear hgg HR0
    by_cases hlt : k < L.length - 1 - k
    · have hlt' : (k : Int) < (L.length : Int) - 1 - (k : Int) := by omega
      have hRl := RV.out.1
      obtain ⟨j, hj⟩ : ∃ j, Hid (j = L.length - 1 - k) := ⟨_, rfl⟩
      have hj1 : (L.length : Int) - 1 - (k : Int) = (j : Int) := by rw [hj.out]; omega
      have hjk : ¬ k = j := by rw [hj.out]; omega
      have hjl : j < L.length := by rw [hj.out]; omega
      have hkj : (k : Int) < (j : Int) := by omega
      have hjl' : (j : Int) < (L.length : Int) := by omega
      have hkl' : (k : Int) < (L.length : Int) := by omega
      obtain ⟨x1, x2⟩ := O.out.slot' (i := k) (by omega)
      obtain ⟨x3, x4⟩ := O.out.slot' (i := j) (by omega)
      have RN := hide (RV.out.next hlt)
      rw [← hj.out] at RN
      have O' : OwnU wr.drew base (.slice (some ⟨g, 0, none⟩) L.length cap) R := own_below O.out (Below.refl _ _).drew
      have kd : Kept (fun k => k = g) wr wr.drew := Kept.of_below (Below.refl _ _).drew
      obtain ⟨o1, k1⟩ := O'.store' k (gN R j)
      obtain ⟨o2, k2⟩ := o1.store' j (gN R k)
      have ON := hide o2
      have KN := hide (((KP.out.trans kd).trans k1).trans k2)
      obtain ⟨y3, y4⟩ := o1.slot' (i := j) (by rw [List.length_set]; omega)
      rw [hj1]
      have wk : IntKind.i64.wrap ((k : Int) + 1) = ((k + 1 : Nat) : Int) := by rw [show (k : Int) + 1 = ((k + 1 : Nat) : Int) by simp]; exact w64_n _ (by omega)
      have wj : IntKind.i64.wrap ((j : Int) - 1) = (j : Int) - 1 := by simp [IntKind.wrap, IntKind.bits, IntKind.signed]; omega
      have HJ1 := hide hj1
      clear hj1 o1 k1 o2 k2 O' kd
      generalize gN R k = u at *
      generalize gN R j = v at *
      go_wp2
      go_region
      all_goals
        go_wp2
        go_roundg (L.length - (k + 1) + 1)
        case measure => have := HG.out; omega
        case rel => exact ⟨k + 1, _, by first | rfl | go_num | (congr 1; omega), by congr 1; have := HJ1.out; omega, ON, RN, KN, by omega, by omega⟩
    · have hlt' : ¬ (k : Int) < (L.length : Int) - 1 - (k : Int) := by omega
      have RD := hide (RV.out.done hlt')
      go_wp2
      refine bodyPost_end (v := .tuple #[]) (results_none rfl _ _ _) rfl ?_
      exact ⟨rfl, by rw [← RD.out]; exact O.out, KP.out⟩
end Go.Proofs.YtdgoilkgplnhfaaGreat
/-
  slices.Index of numbers by its contract. Condition: lists no longer than a process can hold.
-/
namespace Go.Proofs.YtdgoilkgplnhfaaGreat
open Go.RowKit Go.Lib

/-- Where a number stands first. -/
def IxP (L : List Int) (v : Int) (e : Ending) : Prop :=
  (∃ i : Nat, e = .returned (.int .i64 (i : Int)) ∧ L[i]? = some v ∧ ∀ j, j < i → L[j]? ≠ some v) ∨ (e = .returned (.int .i64 (-1)) ∧ v ∉ L)
set_option maxRecDepth 100000 in
theorem index66_any (ao : Option Addr) (cap : Nat) (L : List Int) (v : Int) (w : World) (hl : L.length ≤ 140737488351232) (hat : ZAt w ao L) :
    Calls Tryz.prog 66 #[.slice ao L.length cap, .int .i64 v] w fun e w' => IxP L v e ∧ w' = w := by
  have HAT := hide hat
  clear hat
  go_enter Tryz.func66, Tryz.ntmps66
  go_wp2
  go_loopg [8] (L.length + 1) (fun g x wr => ∃ k : Nat, x = .int .i64 (k : Nat) ∧ k ≤ L.length ∧ Hid (∀ j, j < k → L[j]? ≠ some v) ∧ wr = w ∧ L.length - k < g)
  case atStart => exact ⟨0, rfl, by omega, fun j hj => by omega, rfl, by omega⟩
  case round =>
    obtain ⟨k, rfl, hk1, HA, rfl, hg⟩ := hrel
    have HG := hide hg
    clear hg
    by_cases hk : k < L.length
    · have hk' : (k : Int) < (L.length : Int) := by omega
      obtain ⟨b, off, rfl, c0⟩ := HAT.out.get hk
      obtain ⟨z, hz⟩ : ∃ z, L[k] = z := ⟨_, rfl⟩
      have HZ : Hid (L[k]? = some z) := by unfold Hid; rw [List.getElem?_eq_getElem hk, hz]
      rw [hz] at c0
      clear hz
      by_cases hv : v = z
      · subst hv
        go_wp2
        go_ret
        exact ⟨.inl ⟨k, rfl, HZ.out, HA.out⟩, rfl⟩
      · have HV : Hid (∀ j, j < k + 1 → L[j]? ≠ some v) := fun j hj => by
          by_cases e : j = k
          · rw [e, HZ.out]; intro h; injection h with h; exact hv h.symm
          · exact HA.out j (by omega)
        go_wp2
        go_roundg (L.length - (k + 1) + 1)
        case measure => have := HG.out; omega
        case rel => exact ⟨k + 1, by first | rfl | go_num | (congr 1; omega), by omega, HV, rfl, by omega⟩
    · have hk' : ¬ (k : Int) < (L.length : Int) := by omega
      obtain rfl : k = L.length := by omega
      go_wp2
      go_ret
      refine ⟨.inr ⟨rfl, fun h => ?_⟩, rfl⟩
      obtain ⟨i, hi, e⟩ := List.getElem_of_mem h
      exact HA.out i hi (by rw [List.getElem?_eq_getElem hi, e])
end Go.Proofs.YtdgoilkgplnhfaaGreat
/-
  The least text of each state of an automaton in its one form. Of no program: no condition.
-/
namespace Go.Proofs.YtdgoilkgplnhfaaGreat

/-- Ahead, of texts of one length: by the first byte in which they part. -/
def Lx : List Nat → List Nat → Prop
  | [], _ => True
  | _ :: _, [] => False
  | a :: t, b :: u => a < b ∨ (a = b ∧ Lx t u)
theorem Lx.refl : ∀ t, Lx t t
  | [] => trivial
  | _ :: t => .inr ⟨rfl, Lx.refl t⟩
theorem Lx.trans : ∀ {t u v : List Nat}, Lx t u → Lx u v → Lx t v
  | [], _, _, _, _ => trivial
  | _ :: _, [], _, h, _ => h.elim
  | _ :: _, _ :: _, [], _, k => k.elim
  | a :: t, b :: u, c :: v, h, k => by
    rcases h with h | ⟨rfl, h⟩
    · rcases k with k | ⟨rfl, k⟩
      · exact .inl (by omega)
      · exact .inl h
    · rcases k with k | ⟨rfl, k⟩
      · exact .inl k
      · exact .inr ⟨rfl, h.trans k⟩
theorem Lx.snoc : ∀ {t u : List Nat} {a b : Nat}, t.length = u.length → Lx t u → (t = u → a ≤ b) → Lx (t ++ [a]) (u ++ [b])
  | [], [], a, b, _, _, h => by
    have := h rfl
    by_cases e : a = b
    · subst e; exact Lx.refl _
    · exact .inl (by omega)
  | [], _ :: _, _, _, hl, _, _ => by simp at hl
  | _ :: _, [], _, _, hl, _, _ => by simp at hl
  | x :: t, y :: u, a, b, hl, h, k => by
    rcases h with h | ⟨rfl, h⟩
    · exact .inl h
    · exact .inr ⟨rfl, Lx.snoc (by simpa using hl) h (fun e => k (by rw [e]))⟩
theorem Lx.anti : ∀ {t u : List Nat}, t.length = u.length → Lx t u → Lx u t → t = u
  | [], [], _, _, _ => rfl
  | [], _ :: _, hl, _, _ => by simp at hl
  | _ :: _, [], hl, _, _ => by simp at hl
  | x :: t, y :: u, hl, h, k => by
    rcases h with h | ⟨rfl, h⟩
    · rcases k with k | ⟨rfl, k⟩ <;> omega
    · rcases k with k | ⟨_, k⟩
      · omega
      · rw [Lx.anti (by simpa using hl) h k]
/-- Not behind: shorter, or as long and not behind by its bytes. -/
def Sl (t u : List Nat) : Prop := t.length < u.length ∨ (t.length = u.length ∧ Lx t u)
theorem Sl.refl (t : List Nat) : Sl t t := .inr ⟨rfl, Lx.refl t⟩
theorem Sl.trans {t u v : List Nat} (h : Sl t u) (k : Sl u v) : Sl t v := by
  rcases h with h | ⟨h, h'⟩ <;> rcases k with k | ⟨k, k'⟩
  · exact .inl (by omega)
  · exact .inl (by omega)
  · exact .inl (by omega)
  · exact .inr ⟨by omega, h'.trans k'⟩
theorem Sl.anti {t u : List Nat} (h : Sl t u) (k : Sl u t) : t = u := by
  rcases h with h | ⟨h, h'⟩ <;> rcases k with k | ⟨k, k'⟩
  · omega
  · omega
  · omega
  · exact h'.anti h k'
theorem Sl.snoc {t u : List Nat} {a b : Nat} (h : Sl t u) (k : t = u → a ≤ b) : Sl (t ++ [a]) (u ++ [b]) := by
  rcases h with h | ⟨h, h'⟩
  · exact .inl (by simp; omega)
  · exact .inr ⟨by simp; omega, h'.snoc h k⟩
theorem Sl.nil (t : List Nat) : Sl [] t := by
  cases t with
  | nil => exact Sl.refl _
  | cons a t => exact .inl (by simp)
/-- Where a state is met first: by which state and column. -/
structure DF.Met (D : DF) (s p c : Nat) : Prop where
  lt : p < s
  cw : c < D.W
  goes : D.nx p c = s
  ft : ∀ p' c', c' < D.W → Ahead p' c' p c → D.nx p' c' < s
/-- The first byte of a column. -/
structure DF.Fst (D : DF) (c b : Nat) : Prop where
  lt : b < 256
  is : D.bc b = c
  ft : ∀ b', b' < b → D.bc b' ≠ c
/-- The text of a state, told from its end. -/
inductive DF.LT (D : DF) : Nat → List Nat → Prop
  | zero : D.LT 0 []
  | step {s p c b : Nat} {t : List Nat} : D.Met s p c → D.Fst c b → D.LT p t → D.LT s (t ++ [b])
theorem Ahead.tri (p c q d : Nat) : Ahead p c q d ∨ (p = q ∧ c = d) ∨ Ahead q d p c := by
  unfold Ahead
  omega
theorem DF.Fst.ex {D : DF} {c : Nat} (h : ∃ b, b < 256 ∧ D.bc b = c) : ∃ b, D.Fst c b := by
  obtain ⟨b, h1, h2⟩ := h
  induction b using Nat.strongRecOn with
  | _ b ih =>
    by_cases hx : ∃ b', b' < b ∧ D.bc b' = c
    · obtain ⟨b', k1, k2⟩ := hx
      exact ih b' k1 (by omega) k2
    · exact ⟨b, h1, h2, fun b' hb' e => hx ⟨b', hb', e⟩⟩
theorem DF.Fst.le {D : DF} {c b b' : Nat} (h : D.Fst c b) (k : D.bc b' = c) : b ≤ b' := Nat.le_of_not_lt fun hl => h.ft b' hl k
section
variable {D : DF}
theorem DF.LT.run {s : Nat} {t : List Nat} (h : D.LT s t) : Txt t ∧ D.run 0 t = s := by
  induction h with
  | zero => exact ⟨Txt.nil, rfl⟩
  | step m f _ ih =>
    refine ⟨ih.1.snoc f.lt, ?_⟩
    rw [DF.run_snoc, ih.2]
    unfold DF.step
    rw [f.is, m.goes]
theorem DF.LT.one : ∀ s, s < D.n → ∀ t t', D.LT s t → D.LT s t' → t = t' := by
  intro s
  induction s using Nat.strongRecOn with
  | _ s ih =>
    intro hn t t' h h'
    cases h' with
    | zero =>
      cases h with
      | zero => rfl
      | step m f k => exact absurd m.lt (by omega)
    | step m' f' k' =>
      cases h with
      | zero => exact absurd m'.lt (by omega)
      | step m f k =>
        rename_i p' c' b' u' p c b u
        have e : p = p' ∧ c = c' := by
          rcases Ahead.tri p c p' c' with ha | e | ha
          · have := m'.ft p c m.cw ha
            rw [m.goes] at this
            omega
          · exact e
          · have := m.ft p' c' m'.cw ha
            rw [m'.goes] at this
            omega
        obtain ⟨rfl, rfl⟩ := e
        have eb : b = b' := Nat.le_antisymm (f.le f'.is) (f'.le f.is)
        subst eb
        rw [ih p m.lt (by have := m.lt; omega) u u' k k']
end
section
variable {D : DF} (R : D.Right)
include R
theorem DF.LT.ex : ∀ s, s < D.n → ∃ t, D.LT s t := by
  intro s
  induction s using Nat.strongRecOn with
  | _ s ih =>
    intro hs
    by_cases h0 : s = 0
    · subst h0; exact ⟨[], .zero⟩
    obtain ⟨p, c, hp, hc, h1, h2⟩ := R.met hs (by omega)
    obtain ⟨b, hb⟩ := DF.Fst.ex (R.cols c hc)
    obtain ⟨t, ht⟩ := ih p hp (by omega)
    exact ⟨t ++ [b], .step ⟨hp, hc, h1, h2⟩ hb ht⟩
theorem DF.Fst.lt_of {c c' b b' : Nat} (h : D.Fst c b) (k : D.Fst c' b') (hc : c < c') : b < b' := by
  obtain ⟨x, h1, h2⟩ := R.colf b' k.lt c (by rw [k.is]; exact hc)
  have := h.le h2
  omega
theorem DF.LT.mono : ∀ s' s, s < s' → s' < D.n → ∀ t t', D.LT s t → D.LT s' t' → Sl t t' ∧ t ≠ t' := by
  intro s'
  induction s' using Nat.strongRecOn with
  | _ s' ih =>
    intro s hlt hn t t' h h'
    refine ⟨?_, fun e => ?_⟩
    · cases h' with
      | zero => omega
      | step m' f' k' =>
        cases h with
        | zero => exact Sl.nil _
        | step m f k =>
          rename_i p' c' b' u' p c b u
          rcases Ahead.tri p c p' c' with ha | ⟨rfl, rfl⟩ | ha
          · rcases ha with ha | ⟨rfl, ha⟩
            · have hm := ih p' m'.lt p ha (by have := m'.lt; omega) u u' k k'
              exact hm.1.snoc (fun e => absurd e hm.2)
            · have hb := DF.Fst.lt_of R f f' ha
              rw [DF.LT.one p (by have := m'.lt; omega) u u' k k']
              exact (Sl.refl _).snoc (fun _ => by omega)
          · have := m.goes; have := m'.goes; omega
          · have := m.ft p' c' m'.cw ha
            rw [m'.goes] at this
            omega
    · subst e
      have h1 := (DF.LT.run h).2
      have h2 := (DF.LT.run h').2
      omega
/-- No text that leads to a state stands ahead of its text. -/
theorem DF.LT.least : ∀ (u : List Nat), Txt u → ∀ t, D.LT (D.run 0 u) t → Sl t u := by
  intro u
  induction hn : u.length generalizing u with
  | zero =>
    intro hu t h
    obtain rfl : u = [] := List.length_eq_zero_iff.1 hn
    rw [DF.run_nil] at h
    rw [DF.LT.one 0 R.n0 t [] h .zero]
    exact Sl.refl _
  | succ n ih =>
    intro hu t h
    obtain ⟨v, b', rfl⟩ : ∃ v b', u = v ++ [b'] := ⟨u.dropLast, u.getLast (by intro e; subst e; simp at hn), (List.dropLast_concat_getLast _).symm⟩
    have hv : Txt v := fun x hx => hu x (List.mem_append_left _ hx)
    have hb' : b' < 256 := hu b' (by simp)
    have hq := R.toOk.run R.n0 hv
    obtain ⟨tq, htq⟩ := DF.LT.ex R _ hq
    have h1 := ih v (by simp at hn; exact hn) hv tq htq
    refine Sl.trans ?_ (h1.snoc (a := b') (fun _ => Nat.le_refl _))
    rw [DF.run_snoc] at h
    generalize hs : D.step (D.run 0 v) b' = s at h
    cases h with
    | zero => exact Sl.nil _
    | step m f k =>
      rename_i p c b t
      unfold DF.step at hs
      have hc' := R.bc b' hb'
      rcases Ahead.tri p c (D.run 0 v) (D.bc b') with ha | ⟨rfl, rfl⟩ | ha
      · rcases ha with ha | ⟨rfl, ha⟩
        · have hm := DF.LT.mono R _ _ ha hq t tq k htq
          exact hm.1.snoc (fun e => absurd e hm.2)
        · rw [DF.LT.one _ hq t tq k htq]
          obtain ⟨x, k1, k2⟩ := R.colf b' hb' c ha
          have := f.le k2
          exact (Sl.refl _).snoc (fun _ => by omega)
      · rw [DF.LT.one _ hq t tq k htq]
        exact (Sl.refl _).snoc (fun _ => f.le rfl)
      · have := m.ft _ _ hc' ha
        omega
/-- The text of the first state of a label is the least of all that have it. -/
theorem DF.LT.first {s : Nat} {t : List Nat} (hs : s < D.n) (h : D.LT s t) (hf : ∀ q, q < s → D.ou q ≠ D.ou s) {u : List Nat} (hu : Txt u) (hl : D.lab 0 u = D.ou s) : Sl t u := by
  have hq := R.toOk.run R.n0 hu
  have hle : s ≤ D.run 0 u := Nat.le_of_not_lt fun hlt => hf _ hlt hl
  obtain ⟨tq, htq⟩ := DF.LT.ex R _ hq
  have h1 := DF.LT.least R u hu tq htq
  by_cases e : s = D.run 0 u
  · subst e
    rw [DF.LT.one _ hq t tq h htq]
    exact h1
  · exact (DF.LT.mono R _ _ (by omega) hq t tq h htq).1.trans h1
end
end Go.Proofs.YtdgoilkgplnhfaaGreat
