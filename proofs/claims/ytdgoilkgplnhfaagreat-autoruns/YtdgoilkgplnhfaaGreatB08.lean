/-
  slices.Clone and Make by their contracts: the set of all numbers of the spans, or the error. Condition: a list has at most 2^32 spans.
-/
import Derived.Test.YtdgoilkgplnhfaaGreatB07
import Derived.Lib.SliceRun
import Derived.Test.YtdgoilkgplnhfaaGreatB06
import Derived.Test.YtdgoilkgplnhfaaGreatB04
namespace Go.Proofs.YtdgoilkgplnhfaaGreat
open Go.RowKit Go.Lib

theorem Tryz.info175' : ∃ i, Tryz.prog.info? 175 = some i ∧ i.zero = some (.agg #[.int .i64 0, .int .i64 0]) ∧ i.size = 2 ∧ i.bytes = 16 := by
  have := Tryz.info175
  cases h : Tryz.prog.info? 175 with
  | none => rw [h] at this; simp at this
  | some i =>
    rw [h] at this
    have := Option.some.inj this
    simp only [Prod.mk.injEq] at this
    exact ⟨i, rfl, this⟩
theorem addr_add (b off n : Nat) : (⟨b, off, none⟩ : Addr).add n = ⟨b, off + n, none⟩ := by unfold Addr.add; split <;> simp_all
theorem SpAt.cells {w : World} {a : Addr} {L : List Spn} (h : SpAt w (some a) L) : ∀ j u, (spCells L)[j]? = some u → w.cell? (a.add j) = some u := by
  intro j u hu
  have hj : j < L.length * 2 := by
    rw [← spCells_length]
    rcases Nat.lt_or_ge j (spCells L).length with h | h
    · exact h
    · rw [List.getElem?_eq_none h] at hu; cases hu
  obtain ⟨b, off, e, _, hc⟩ := h.get (i := j / 2) (by omega)
  cases e
  obtain ⟨a1, a2⟩ := spCells_get L (j / 2) (by omega)
  obtain ⟨c1, c2⟩ := hc (j / 2) (by omega)
  rw [addr_add]
  rcases Nat.mod_two_eq_zero_or_one j with hm | hm
  · rw [show j / 2 * 2 = j by omega] at a1 c1
    rw [hu] at a1
    rw [c1, a1]
  · rw [show j / 2 * 2 + 1 = j by omega] at a2
    rw [show off + j / 2 * 2 + 1 = off + j by omega] at c2
    rw [hu] at a2
    rw [c2, a2]

set_option maxRecDepth 100000 in
set_option maxHeartbeats 1000000 in
theorem clone_any (ao : Option Addr) (cap : Nat) (L : List Spn) (w : World) (hl : L.length ≤ 4294967296) (hat : SpAt w ao L) :
    Calls Tryz.prog 146 #[.slice ao L.length cap] w fun e w' => ∃ v', e = .returned v' ∧ OwnS w' w.heap.size v' L ∧ Below w.heap.size w w' := by
  obtain ⟨i0, hi, hz0, hz1, hz2⟩ := Tryz.info175'
  have hnil := fun (a : Option Addr) (n c : Nat) (W : World) => run_eql_slice_nil (P := Tryz.prog) W 94 175 a n c 0 0 Tryz.underlying94
  cases ao with
  | none =>
    have hL : L = [] := by
      rcases hat with h | ⟨b, off, e, _⟩
      · exact h
      · cases e
    subst hL
    simp only [List.length_nil]
    go_enter Tryz.func146, Tryz.ntmps146
    go_wp2
    go_ret
    exact ⟨_, rfl, OwnS.nil _ _, Below.refl _ _⟩
  | some a =>
    have hb1 : Below w.heap.size w (w.alloc (.cells #[] 175)) := (Below.refl _ _).alloc (Nat.le_refl _) _
    have HN := hide (hat.below hb1).cells
    have HO : Hid ((w.alloc (.cells #[] 175)).ownsRow w.heap.size 175 2 (.slice (some ⟨w.heap.size, 0, none⟩) 0 0) 0 []) := ⟨rfl, .inr ⟨w.heap.size, 0, #[], rfl, Nat.le_refl _, by show (w.heap.push _)[_]? = _; simp, Nat.le_refl _, by decide, rfl, rfl⟩⟩
    have HB := hide hb1
    have HL := hide (spCells_length L)
    clear hat hb1
    go_enter Tryz.func146, Tryz.ntmps146
    go_wp2_with (at_builtin; refine wpList_append_own_at _ rfl (.tmp 5) (.tmp 6) 94 rfl w.heap.size 175 i0 (.agg #[.int .i64 0, .int .i64 0]) 2 16 Tryz.underlying94 hi hz0 hz1 hz2 rfl (by decide) _ 0 [] rfl HO.out a L.length cap (spCells L) rfl HL.out HN.out (spCells_one L) (by unfold maxLen; omega) (by omega) HB.out.size ?_; intro v8 w8 h1 h2 _ h3; have H1 := hide h1; have H2 := hide h2; clear h1 h2 h3)
    go_ret
    refine ⟨_, rfl, ?_, HB.out.grown H2.out HB.out.size (fun k hk => by cases hk; exact Nat.le_refl _)⟩
    have := H1.out
    rw [Nat.zero_add, List.nil_append] at this
    exact this

theorem take_last {A : List Spn} (h : IsSet A) : ∀ B z, A = B ++ [z] → 0 ≤ z.2 ∧ z.2 ≤ 4294967295 := by
  rintro B z rfl
  have := h.1 z (by simp)
  unfold Bnd at this
  omega
theorem take_getD (M : List Spn) (k : Nat) (hk : k < M.length) : M.take (k + 1) = M.take k ++ [M.getD k (0, 0)] := by
  rw [List.take_succ_eq_append_getElem hk]
  simp [List.getD_eq_getElem?_getD, hk]

set_option maxRecDepth 100000 in
set_option maxHeartbeats 2000000 in
theorem make_any (ao : Option Addr) (cap : Nat) (L : List Spn) (w : World) (hl : L.length ≤ 4294967296) (hat : SpAt w ao L) :
    Calls Tryz.prog 126 #[.slice ao L.length cap] w fun e w' => Below w.heap.size w w' ∧
      (((∀ s ∈ L, Bnd s) ∧ ∃ v' M, e = .returned (.tuple #[v', .int .i64 0]) ∧ OwnS w' w.heap.size v' M ∧ IsSet M ∧ (∀ n, memB n M = memB n L) ∧ M.length ≤ L.length) ∨
       ((¬ ∀ s ∈ L, Bnd s) ∧ e = .returned (.tuple #[.slice none 0 0, .int .i64 20]))) := by
  go_enter Tryz.func126, Tryz.ntmps126
  go_wp2
  go_loopw [12] (fun i wr => ∃ k : Nat, k ≤ L.length ∧ i = .int .i64 k ∧ Hid (∀ j, j < k → Bnd (L.getD j (0, 0))) ∧ Below w.heap.size w wr) (fun i _ => L.length - (intOf i).toNat)
  case atStart => exact ⟨0, Nat.zero_le _, rfl, fun j hj => absurd hj (by omega), Below.refl _ _⟩
  case round =>
    obtain ⟨k, hk, rfl, hok, hq⟩ := hrel
    have HQ := hide hq
    clear hq
    by_cases hlt : k < L.length
    · obtain ⟨b, off, rfl, hb, hc⟩ := hat.get hlt
      obtain ⟨c1, c2⟩ := (hc k hlt).below HQ.out hb
      obtain ⟨s, hs⟩ : ∃ s, s = L.getD k (0, 0) := ⟨_, rfl⟩
      rw [← hs] at c1 c2
      have HS := hide hs
      have hcon := bounded_any s.1 s.2 (wr.alloc (.cells #[.int .i64 s.1, .int .i64 s.2] 175))
      have hb1 : Below w.heap.size w (wr.alloc (.cells #[.int .i64 s.1, .int .i64 s.2] 175)) := HQ.out.trans (((Below.refl _ _).alloc (Nat.le_refl _) _).mono HQ.out.size)
      have HB1 := hide hb1
      clear hs hc hat hb1
      by_cases hbd : Bnd s
      · rw [decide_eq_true hbd] at hcon
        go_wp2_with (go_at_call 145; refine hcon.mono ?_; rintro e w2 ⟨rfl, x2⟩; have X2 := hide x2; clear x2)
        go_roundw
        case rel =>
          refine ⟨k + 1, by omega, by go_num, fun j hj => ?_, HB1.out.trans (X2.out.mono HB1.out.size)⟩
          rcases Nat.lt_or_ge j k with h | h
          · exact hok.out j h
          · rw [show j = k by omega, ← HS.out]; exact hbd
        case measure => simp [intOf]; omega
      · rw [decide_eq_false hbd] at hcon
        go_wp2_with (go_at_call 145; refine hcon.mono ?_; rintro e w2 ⟨rfl, x2⟩; have X2 := hide x2; clear x2)
        go_ret2
        refine ⟨HB1.out.trans (X2.out.mono HB1.out.size), .inr ⟨fun h => hbd ?_, rfl⟩⟩
        rw [HS.out]
        have := h L[k] (List.getElem_mem hlt)
        simpa [List.getD_eq_getElem?_getD, hlt] using this
    · have h8 : k = L.length := by omega
      subst h8
      have hall : ∀ s ∈ L, Bnd s := fun s hs => by
        obtain ⟨i, hi, rfl⟩ := List.getElem_of_mem hs
        simpa [List.getD_eq_getElem?_getD, hi] using hok.out i hi
      have hcl := clone_any ao cap L wr hl (hat.below (HQ.out.mono (Nat.le_refl _)))
      have HALL := hide hall
      clear hall hat
      have hso : ∀ (v1 : Value) (w1 : World), OwnS w1 wr.heap.size v1 L → Below wr.heap.size wr w1 → Calls Tryz.prog 147 #[v1, .func (.func 148) #[] #[]] w1 fun e w' => e = .returned (.tuple #[]) ∧ ∃ (a1 : Option Addr) (c1 : Nat) (M : List Spn), v1 = .slice a1 L.length c1 ∧ M.Perm L ∧ M.Pairwise (fun s t => s.1 ≤ t.1) ∧ SpAt w' a1 M ∧ Below wr.heap.size wr w' := by
        intro v1 w1 ho hb
        have hh : w1.ownsRow wr.heap.size 175 2 v1 L.length (spCells L) := ho
        rcases hh.2 with ⟨rfl, hn⟩ | ⟨g, cap', cur, rfl, hbg, hg, _⟩
        · have hL := List.length_eq_zero_iff.1 hn
          subst hL
          have := AnyF.slices_SortFunc_none Tryz.sortSp none 0 (.func (.func 148) #[] #[]) w1
          change Calls Tryz.prog 147 _ _ _ at this
          refine this.mono ?_
          rintro e w' ⟨rfl, rfl⟩
          exact ⟨rfl, none, 0, [], rfl, List.Perm.refl _, List.Pairwise.nil, .inl rfl, hb⟩
        · refine (sort_any w1 wr.heap.size g cap' L ho (by omega)).mono ?_
          rintro e w' ⟨rfl, M, m1, m2, m3, m4⟩
          exact ⟨rfl, _, cap', M, rfl, m1, m2, m3, hb.trans (m4.below hb.size (fun i hi => by subst hi; exact hbg))⟩
      go_wp2_with (first | (go_at_call 146; refine hcl.mono ?_; rintro e w1 ⟨v1, rfl, o1, x1⟩; have O1 := hide o1; have X1 := hide x1; clear o1 x1) | (go_at_call 147; refine (hso _ _ O1.out X1.out).mono ?_; rintro e w2 ⟨rfl, a1, c1, M, hv1, m1, m2, m3, x2⟩; subst hv1; have M1 := hide m1; have M2 := hide m2; have M3 := hide m3; have X2 := hide x2; clear m1 m2 m3 x2))
      have hml : M.length = L.length := M1.out.length_eq
      have HBW : Hid (Below w.heap.size w w2) := HQ.out.trans (X2.out.mono HQ.out.size)
      have HMB : Hid (∀ s ∈ M, Bnd s) := fun s hs => HALL.out s (M1.out.mem_iff.1 hs)
      clear hcl hso
      go_loopw [7, 26] (fun o i wk => ∃ k : Nat, k ≤ L.length ∧ i = .int .i64 k ∧ Hid (OwnS wk w2.heap.size o (joinAll (M.take k))) ∧ Below w2.heap.size w2 wk) (fun _ i _ => L.length - (intOf i).toNat)
      case atStart => exact ⟨0, Nat.zero_le _, rfl, OwnS.nil _ _, Below.refl _ _⟩
      case round =>
        obtain ⟨k, hk, rfl, ho, hq⟩ := hrel
        have HQ2 := hide hq
        clear hq
        by_cases hlt : k < L.length
        · obtain ⟨b, off, rfl, hb, hc⟩ := M3.out.get (i := k) (by omega)
          obtain ⟨q1, q2⟩ := (hc k (by omega)).below HQ2.out hb
          obtain ⟨s, hs⟩ : ∃ s, s = M.getD k (0, 0) := ⟨_, rfl⟩
          rw [← hs] at q1 q2
          have hst := take_getD M k (by omega)
          rw [← hs] at hst
          have HST := hide hst
          have hA := (joinAll_spec _ (M.take k) rfl (fun s hs => HMB.out s (List.mem_of_mem_take hs)) (M2.out.sublist (List.take_sublist k M))).1
          have hb1 : Below w2.heap.size w2 (wr.alloc (.cells #[.int .i64 s.1, .int .i64 s.2] 175)) := HQ2.out.trans (((Below.refl _ _).alloc (Nat.le_refl _) _).mono HQ2.out.size)
          have HB1 := hide hb1
          have hjl := joinAll_length (M.take k)
          rw [List.length_take] at hjl
          have hcon := joined_any (wr.alloc (.cells #[.int .i64 s.1, .int .i64 s.2] 175)) w2.heap.size u7 (joinAll (M.take k)) s (ho.out.below ((Below.refl _ _).alloc (Nat.le_refl _) _)) hb1.size (by omega) (take_last hA)
          have HLT := hide (ho.out.lt)
          clear hs hc hst hA hb1 hjl ho
          go_wp2_with (go_at_call 149; refine hcon.mono ?_; rintro e w3 ⟨v3, rfl, o3, k3, _⟩; have O3 := hide o3; have K3 := hide k3; clear o3 k3)
          go_roundw
          case rel => exact ⟨k + 1, by omega, by go_num, by rw [HST.out, joinAll_snoc]; exact O3.out, HB1.out.trans (K3.out.below HB1.out.size (fun i hi => (HLT.out i hi).1))⟩
          case measure => simp [intOf]; omega
        · have h8 : k = L.length := by omega
          subst h8
          have e1 : M.take L.length = M := by rw [← hml, List.take_length]
          rw [e1] at ho
          go_wp2
          go_ret2
          obtain ⟨j1, j2, _⟩ := joinAll_spec _ M rfl HMB.out M2.out
          refine ⟨HBW.out.trans (HQ2.out.mono HBW.out.size), .inl ⟨HALL.out, u7, joinAll M, rfl, ho.out.mono HBW.out.size, j1, fun n => ?_, by have := joinAll_length M; omega⟩⟩
          rw [j2, Bool.eq_iff_iff, memB_iff, memB_iff]
          exact ⟨fun ⟨s, h1, h2⟩ => ⟨s, M1.out.mem_iff.1 h1, h2⟩, fun ⟨s, h1, h2⟩ => ⟨s, M1.out.mem_iff.2 h1, h2⟩⟩
end Go.Proofs.YtdgoilkgplnhfaaGreat
/-
  Several rows of one-cell values of whatever types, each in a block of its own, while a call goes on. Of no program: no condition.
-/
namespace Go.Proofs.YtdgoilkgplnhfaaGreat
open Go.RowKit Go.Lib

abbrev VR := Value × TypeId × List Value
/-- Rows, apart. -/
structure Vrs (w : World) (base : Nat) (R : List VR) : Prop where
  own : ∀ j (h : j < R.length), w.ownsRow base (R[j]).2.1 1 (R[j]).1 (R[j]).2.2.length (R[j]).2.2
  ap : ∀ j (h : j < R.length) k (h' : k < R.length), j ≠ k → ∀ b, (R[j]).1.ownBlock = some b → ¬ (R[k]).1.ownBlock = some b
/-- Rows of a call, and what lay there ahead of it. -/
structure Fr (w0 : World) (R : List VR) (w : World) : Prop where
  rs : Vrs w w0.heap.size R
  bel : Below w0.heap.size w0 w
section
variable {w0 w w' : World} {base : Nat} {R : List VR}
theorem Vrs.below (h : Vrs w base R) (x : Below w.heap.size w w') : Vrs w' base R := ⟨fun j hj => own_below (h.own j hj) x, h.ap⟩
theorem Vrs.upd {F : Nat → Prop} (h : Vrs w base R) {i : Nat} (hi : i < R.length) {v' : Value} {e : TypeId} {L' : List Value} (h1 : w'.ownsRow base e 1 v' L'.length L') (hk : Kept F w w') (hF : ∀ b, F b → (R[i]).1.ownBlock = some b) (hv : ∀ b, v'.ownBlock = some b → (R[i]).1.ownBlock = some b ∨ w.heap.size ≤ b) : Vrs w' base (R.set i (v', e, L')) := by
  refine ⟨fun j hj => ?_, fun j hj k hk' hne b hb hb2 => ?_⟩
  · rw [List.length_set] at hj
    by_cases hji : i = j
    · subst hji
      rw [List.getElem_set_self]
      exact h1
    · rw [List.getElem_set_ne hji]
      exact own_kept (h.own j hj) hk (fun b hb hf => h.ap j hj i hi (fun e => hji e.symm) b hb (hF b hf))
  · rw [List.length_set] at hj hk'
    have hlt : ∀ m (hm : m < R.length) b, (R[m]).1.ownBlock = some b → b < w.heap.size := fun m hm b hb => (World.ownsRow.lt (h.own m hm) b hb).2
    by_cases hji : i = j
    · subst hji
      rw [List.getElem_set_self] at hb
      rw [List.getElem_set_ne hne] at hb2
      rcases hv b hb with h3 | h3
      · exact h.ap i hi k hk' hne b h3 hb2
      · have := hlt k hk' b hb2; omega
    · rw [List.getElem_set_ne hji] at hb
      by_cases hki : i = k
      · subst hki
        rw [List.getElem_set_self] at hb2
        rcases hv b hb2 with h3 | h3
        · exact h.ap j hj i hi hne b hb h3
        · have := hlt j hj b hb; omega
      · rw [List.getElem_set_ne hki] at hb2
        exact h.ap j hj k hk' hne b hb hb2
theorem Vrs.cons (h : Vrs w base R) (x : Below w.heap.size w w') {v : Value} {e : TypeId} {L : List Value} (ho : w'.ownsRow base e 1 v L.length L) (hb : ∀ b, v.ownBlock = some b → w.heap.size ≤ b) : Vrs w' base (R ++ [(v, e, L)]) := by
  have h' := h.below x
  have hlt : ∀ m (hm : m < R.length) b, (R[m]).1.ownBlock = some b → b < w.heap.size := fun m hm b hb => (World.ownsRow.lt (h.own m hm) b hb).2
  refine ⟨fun j hj => ?_, fun j hj k hk hne b h1 h2 => ?_⟩
  · by_cases hjl : j < R.length
    · rw [List.getElem_append_left hjl]; exact h'.own j hjl
    · have : j = R.length := by rw [List.length_append, List.length_singleton] at hj; omega
      subst this
      rw [List.getElem_append_right (Nat.le_refl _)]
      simpa using ho
  · by_cases hjl : j < R.length
    · rw [List.getElem_append_left hjl] at h1
      by_cases hkl : k < R.length
      · rw [List.getElem_append_left hkl] at h2; exact h.ap j hjl k hkl hne b h1 h2
      · have : k = R.length := by rw [List.length_append, List.length_singleton] at hk; omega
        subst this
        rw [List.getElem_append_right (Nat.le_refl _)] at h2
        have := hlt j hjl b h1
        have := hb b (by simpa using h2)
        omega
    · have : j = R.length := by rw [List.length_append, List.length_singleton] at hj; omega
      subst this
      rw [List.getElem_append_right (Nat.le_refl _)] at h1
      have hkl : k < R.length := by rw [List.length_append, List.length_singleton] at hk; omega
      rw [List.getElem_append_left hkl] at h2
      have := hlt k hkl b h2
      have := hb b (by simpa using h1)
      omega
theorem Vrs.nil (w : World) (base : Nat) : Vrs w base [] := ⟨fun j hj => (by cases hj), fun j hj => (by cases hj)⟩
theorem Fr.start (w0 : World) : Fr w0 [] w0 := ⟨Vrs.nil _ _, Below.refl _ _⟩
theorem Fr.below (h : Fr w0 R w) (x : Below w.heap.size w w') : Fr w0 R w' := ⟨h.rs.below x, h.bel.trans (x.mono h.bel.size)⟩
theorem Fr.drew (h : Fr w0 R w) (n : Nat) : Fr w0 R (w.drewN n) := h.below ⟨rfl, rfl, rfl, Nat.le_refl _, fun _ _ => rfl⟩
/-- One row more, made anew. -/
theorem Fr.cons (h : Fr w0 R w) (x : Below w.heap.size w w') {v : Value} {e : TypeId} {L : List Value} (ho : w'.ownsRow w0.heap.size e 1 v L.length L) (hb : ∀ b, v.ownBlock = some b → w.heap.size ≤ b) : Fr w0 (R ++ [(v, e, L)]) w' := ⟨h.rs.cons x ho hb, h.bel.trans (x.mono h.bel.size)⟩
/-- A store into one of them. -/
theorem Fr.store (h : Fr w0 R w) {i : Nat} (hi : i < R.length) {g n cap : Nat} {e : TypeId} {L : List Value} (hR : R[i] = (.slice (some ⟨g, 0, none⟩) n cap, e, L)) (k : Nat) (x : Value) : Fr w0 (R.set i (.slice (some ⟨g, 0, none⟩) n cap, e, L.set k x)) (w.setCell ⟨g, k, none⟩ x) := by
  have ho := h.rs.own i hi
  rw [hR] at ho
  have hn : n = L.length := by
    rcases ho.2 with ⟨e, e2⟩ | ⟨g', c', cur, e, _⟩
    · cases e
    · injection e with _ e2 _
  subst hn
  have hg := (World.ownsRow.lt ho g rfl).1
  obtain ⟨h1, h2⟩ := ho.stored k x
  have k1 : Kept (fun b => b = g) w (w.setCell ⟨g, k, none⟩ x) := (kept_of_grown h2).mono (fun b hb => by injection hb with hb; exact hb.symm)
  exact ⟨h.rs.upd hi (by rw [List.length_set]; exact h1) k1 (fun b hb => by rw [hR, hb]; rfl) (fun b hb => .inl (by rw [hR]; exact hb)), h.bel.trans (k1.below h.bel.size (fun b hb => by omega))⟩
/-- An append to one of them. -/
theorem Fr.app (h : Fr w0 R w) {w5 : World} (x5 : Below w.heap.size w w5) {i : Nat} (hi : i < R.length) {v v' x : Value} {e : TypeId} {L : List Value} (hR : R[i] = (v, e, L)) (h1 : w'.ownsRow w0.heap.size e 1 v' (L.length + 1) (L ++ [x])) (h2 : AppAt w5 w' v v') : Fr w0 (R.set i (v', e, L ++ [x])) w' := by
  have h5 := h.below x5
  have o : w'.ownsRow w0.heap.size e 1 v' (L ++ [x]).length (L ++ [x]) := by
    rw [List.length_append, List.length_singleton]
    exact h1
  have ov := h5.rs.own i hi
  rw [hR] at ov
  have hv : (R[i]).1 = v := by rw [hR]
  rcases h2 with ⟨q, a, b, c⟩ | ⟨a, b⟩
  · have k6 := kept_of_grown c
    exact ⟨h5.rs.upd hi o k6 (fun k hk => by rw [hv]; exact a.trans hk) (fun k hk => .inl (by rw [hv, a, ← b]; exact hk)), h5.bel.trans (k6.below h5.bel.size (fun k hk => (World.ownsRow.lt ov k (a.trans hk)).1))⟩
  · have x6 := below_of_grown a
    exact ⟨h5.rs.upd (F := fun _ => False) hi o (Kept.of_below x6) (fun k hk => hk.elim) (fun k hk => .inr (b k hk)), h5.bel.trans (x6.mono h5.bel.size)⟩
theorem Fr.own (h : Fr w0 R w) {i : Nat} (hi : i < R.length) {v : Value} {e : TypeId} {L : List Value} (hR : R[i] = (v, e, L)) : w.ownsRow w0.heap.size e 1 v L.length L := by
  have ho := h.rs.own i hi
  rw [hR] at ho
  exact ho
theorem Fr.shape (h : Fr w0 R w) {i : Nat} (hi : i < R.length) {v : Value} {e : TypeId} {L : List Value} (hR : R[i] = (v, e, L)) : ∃ ao cap, v = .slice ao L.length cap := by
  obtain ⟨ao, cap, e, _⟩ := own_shape (h.own hi hR)
  exact ⟨ao, cap, e⟩
theorem Fr.cell (h : Fr w0 R w) {i : Nat} (hi : i < R.length) {ao : Option Addr} {n cap : Nat} {e : TypeId} {L : List Value} (hR : R[i] = (.slice ao n cap, e, L)) {k : Nat} (hk : k < L.length) : ∃ g, ao = some ⟨g, 0, none⟩ ∧ w.cell? ⟨g, k, none⟩ = some L[k] ∧ w.frozen? ⟨g, k, none⟩ = false := by
  have ho := h.own hi hR
  obtain ⟨a2, c2, e2, hp⟩ := own_shape ho
  obtain ⟨g, hg⟩ := hp (by omega)
  simp only [Value.slice.injEq] at e2
  obtain ⟨e1, e3, e4⟩ := e2
  rw [hg] at e1
  subst e1 e3 e4
  have := ho.cellAt k (by omega)
  rw [List.getElem?_eq_getElem (by omega)] at this
  exact ⟨g, rfl, this, ho.frozenAt _⟩
end
/-- Flags as cells. -/
def bC (B : List Bool) : List Value := B.map Value.bool
theorem bC_len (B : List Bool) : (bC B).length = B.length := by simp [bC]
theorem bC_set (B : List Bool) (i : Nat) (x : Bool) : (bC B).set i (.bool x) = bC (B.set i x) := by simp [bC, List.map_set]
section
variable {w0 w w4 : World} {R : List VR}
theorem Fr.slot (h : Fr w0 R w) {i : Nat} (hi : i < R.length) {g n cap : Nat} {e : TypeId} {L : List Value} (hR : R[i] = (.slice (some ⟨g, 0, none⟩) n cap, e, L)) {k : Nat} (hk : k < L.length) : w.cell? ⟨g, k, none⟩ = some L[k] ∧ w.frozen? ⟨g, k, none⟩ = false := by
  obtain ⟨g', e1, h1, h2⟩ := h.cell hi hR hk
  simp only [Option.some.injEq, Addr.mk.injEq] at e1
  obtain ⟨rfl, _⟩ := e1
  exact ⟨h1, h2⟩
theorem Fr.slotN (h : Fr w0 R w) {i : Nat} (hi : i < R.length) {g n cap : Nat} {L : List Nat} (hR : R[i] = (.slice (some ⟨g, 0, none⟩) n cap, 3, nCells L)) {k : Nat} (hk : k < L.length) : w.cell? ⟨g, k, none⟩ = some (.int .i64 ((gN L k : Nat) : Int)) ∧ w.frozen? ⟨g, k, none⟩ = false := by
  obtain ⟨h1, h2⟩ := h.slot hi hR (k := k) (by rw [nCells_length]; exact hk)
  refine ⟨?_, h2⟩
  rw [h1, gN_lt hk]
  simp [nCells]
theorem Fr.slotB (h : Fr w0 R w) {i : Nat} (hi : i < R.length) {g n cap : Nat} {B : List Bool} (hR : R[i] = (.slice (some ⟨g, 0, none⟩) n cap, 4, bC B)) {k : Nat} (hk : k < B.length) : w.cell? ⟨g, k, none⟩ = some (.bool (B.getD k false)) ∧ w.frozen? ⟨g, k, none⟩ = false := by
  obtain ⟨h1, h2⟩ := h.slot hi hR (k := k) (by rw [bC_len]; exact hk)
  refine ⟨?_, h2⟩
  rw [h1]
  simp [bC, List.getD_eq_getElem?_getD, hk]
theorem Fr.nat (h : Fr w0 R w) {i : Nat} (hi : i < R.length) {v : Value} {L : List Nat} (hR : R[i] = (v, 3, nCells L)) : ∃ ao cap, v = .slice ao L.length cap ∧ NAt w ao L := by
  have ho := h.own hi hR
  rw [nCells_length] at ho
  exact OwnN.at (show OwnN w w0.heap.size v L from ho)
theorem Fr.storeN (h : Fr w0 R w) {i : Nat} (hi : i < R.length) {g n cap : Nat} {L : List Nat} (hR : R[i] = (.slice (some ⟨g, 0, none⟩) n cap, 3, nCells L)) (k x : Nat) : Fr w0 (R.set i (.slice (some ⟨g, 0, none⟩) n cap, 3, nCells (L.set k x))) (w.setCell ⟨g, k, none⟩ (.int .i64 (x : Int))) := by
  rw [← nCells_set]
  exact h.store hi hR k _
theorem Fr.storeB (h : Fr w0 R w) {i : Nat} (hi : i < R.length) {g n cap : Nat} {B : List Bool} (hR : R[i] = (.slice (some ⟨g, 0, none⟩) n cap, 4, bC B)) (k : Nat) (x : Bool) : Fr w0 (R.set i (.slice (some ⟨g, 0, none⟩) n cap, 4, bC (B.set k x))) (w.setCell ⟨g, k, none⟩ (.bool x)) := by
  rw [← bC_set]
  exact h.store hi hR k _
theorem Fr.madeB (h : Fr w0 R w) {n : Nat} (m1 : w4.ownsRow w0.heap.size 4 1 (.slice (some ⟨w.heap.size, 0, none⟩) n n) n (madeCells (Value.bool false).cells (n * 1)).toList) (m2 : w.grownBy w4 none) : Fr w0 (R ++ [(.slice (some ⟨w.heap.size, 0, none⟩) n n, 4, bC (List.replicate n false))]) w4 := by
  rw [made_falses] at m1
  refine h.cons (below_of_grown m2) ?_ (fun b hb => by have e : w.heap.size = b := Option.some.inj hb; omega)
  rw [bC_len, List.length_replicate]
  exact m1
theorem Fr.madeN (h : Fr w0 R w) {n : Nat} (m1 : w4.ownsRow w0.heap.size 3 1 (.slice (some ⟨w.heap.size, 0, none⟩) n n) n (madeCells (Value.int .i64 0).cells (n * 1)).toList) (m2 : w.grownBy w4 none) : Fr w0 (R ++ [(.slice (some ⟨w.heap.size, 0, none⟩) n n, 3, nCells (List.replicate n 0))]) w4 := by
  rw [made_nums] at m1
  refine h.cons (below_of_grown m2) ?_ (fun b hb => by have e : w.heap.size = b := Option.some.inj hb; omega)
  rw [nCells_length, List.length_replicate]
  exact m1
theorem Fr.bare (h : Fr w0 R w) (e : TypeId) : Fr w0 (R ++ [(.slice none 0 0, e, [])]) w := h.cons (Below.refl _ _) (World.ownsRow_nil w _ e 1) (fun b hb => by cases hb)
/-- What an append wants of the row that grows, behind the block of what is appended. -/
theorem Fr.pre (h : Fr w0 R w) {i : Nat} (hi : i < R.length) {v : Value} {L : List Nat} (hR : R[i] = (v, 3, nCells L)) (z : Int) : (w.alloc (.cells #[.int .i64 z] 3)).ownsRow w0.heap.size 3 1 v L.length (nCells L) ∧ (∀ (j : Nat) (u : Value), [Value.int .i64 z][j]? = some u → (w.alloc (.cells #[.int .i64 z] 3)).cell? ((⟨w.heap.size, 0, none⟩ : Addr).add j) = some u) ∧ w0.heap.size ≤ (w.alloc (.cells #[.int .i64 z] 3)).heap.size := by
  have x5 : Below w.heap.size w (w.alloc (.cells #[.int .i64 z] 3)) := al (Below.refl _ _) _
  refine ⟨?_, fun j u hu => ?_, Nat.le_trans h.bel.size x5.size⟩
  · have ho := h.own hi hR
    rw [nCells_length] at ho
    exact own_below ho x5
  · have hB := heap_alloc_new w (.cells #[.int .i64 z] 3)
    rw [addr_add, cell_of_row _ _ _ _ _ _ hB]
    simpa using hu
theorem Fr.push (h : Fr w0 R w) {i : Nat} (hi : i < R.length) {v v' : Value} {L : List Nat} (hR : R[i] = (v, 3, nCells L)) {x : Nat} (h1 : w4.ownsRow w0.heap.size 3 1 v' (L.length + 1) (nCells L ++ [.int .i64 (x : Int)])) (h2 : AppAt (w.alloc (.cells #[.int .i64 (x : Int)] 3)) w4 v v') : Fr w0 (R.set i (v', 3, nCells (L ++ [x]))) w4 := by
  rw [nCells_snoc]
  exact h.app (al (Below.refl _ _) _) hi hR (by rw [nCells_length]; exact h1) h2
end
section
variable {w0 w w' : World} {R : List VR}
/-- Some of the rows, in another order. -/
theorem Fr.sel (h : Fr w0 R w) {R' : List VR} (f : Nat → Nat) (hf : ∀ j (hj : j < R'.length), ∃ hk : f j < R.length, R'[j] = R[f j]) (hi : ∀ j, j < R'.length → ∀ k, k < R'.length → f j = f k → j = k) : Fr w0 R' w := by
  refine ⟨⟨fun j hj => ?_, fun j hj k hk hne b h1 h2 => ?_⟩, h.bel⟩
  · obtain ⟨hk, e⟩ := hf j hj
    rw [e]
    exact h.rs.own _ hk
  · obtain ⟨hj', e1⟩ := hf j hj
    obtain ⟨hk', e2⟩ := hf k hk
    rw [e1] at h1
    rw [e2] at h2
    exact h.rs.ap _ hj' _ hk' (fun e => hne (hi j hj k hk e)) b h1 h2
theorem Fr.front {x : VR} (h : Fr w0 (R ++ [x]) w) : Fr w0 (x :: R) w := by
  refine h.sel (fun j => if j = 0 then R.length else j - 1) (fun j hj => ?_) (fun j hj k hk e => ?_)
  · cases j with
    | zero => exact ⟨by simp, by simp⟩
    | succ j =>
      have hj' : j < R.length := by simpa using hj
      refine ⟨by simp; omega, ?_⟩
      simp [List.getElem_append_left hj']
  · simp only [List.length_cons] at hj hk
    by_cases h1 : j = 0
    · by_cases h2 : k = 0
      · omega
      · simp only [if_pos h1, if_neg h2] at e; omega
    · by_cases h2 : k = 0
      · simp only [if_neg h1, if_pos h2] at e; omega
      · simp only [if_neg h1, if_neg h2] at e; omega
theorem Fr.tail {x : VR} (h : Fr w0 (x :: R) w) : Fr w0 R w := by
  refine h.sel (fun j => j + 1) (fun j hj => ⟨by simp; exact hj, by simp⟩) (fun j _ k _ e => by omega)
theorem Fr.swap {x y : VR} (h : Fr w0 (x :: y :: R) w) : Fr w0 (y :: x :: R) w := by
  refine h.sel (fun j => if j = 0 then 1 else if j = 1 then 0 else j) (fun j hj => ?_) (fun j _ k _ e => ?_)
  · match j, hj with
    | 0, _ => exact ⟨by simp, by simp⟩
    | 1, _ => exact ⟨by simp, by simp⟩
    | j + 2, hj => exact ⟨by simpa using hj, by simp⟩
  · have key : ∀ j : Nat, (if j = 0 then 1 else if j = 1 then 0 else j) = 1 ∧ j = 0 ∨ (if j = 0 then 1 else if j = 1 then 0 else j) = 0 ∧ j = 1 ∨ (if j = 0 then 1 else if j = 1 then 0 else j) = j ∧ 1 < j := fun j => by
      by_cases h1 : j = 0
      · simp [h1]
      · by_cases h2 : j = 1
        · simp [h2]
        · simp [h1, h2]; omega
    have h1 := key j
    have h2 := key k
    omega
/-- The second row goes. -/
theorem Fr.drop3 {x y z u : VR} (h : Fr w0 (x :: y :: z :: u :: R) w) : Fr w0 (x :: y :: z :: R) w := by
  refine h.sel (fun j => if j < 3 then j else j + 1) (fun j hj => ?_) (fun j _ k _ e => ?_)
  · match j, hj with
    | 0, _ => exact ⟨by simp, by simp⟩
    | 1, _ => exact ⟨by simp, by simp⟩
    | 2, _ => exact ⟨by simp, by simp⟩
    | j + 3, hj =>
      have hj' : j < R.length := by simpa using hj
      have e : (if j + 3 < 3 then j + 3 else j + 3 + 1) = j + 4 := by rw [if_neg (by omega)]
      exact ⟨by rw [e]; simp; exact hj', by simp only [e]; simp⟩
  · have key : ∀ j : Nat, (if j < 3 then j else j + 1) = j ∧ j < 3 ∨ (if j < 3 then j else j + 1) = j + 1 ∧ 3 ≤ j := fun j => by
      by_cases h1 : j < 3
      · simp [h1]
      · simp [h1]; omega
    have h1 := key j
    have h2 := key k
    omega
/-- A box, as a row of what it holds. -/
theorem Fr.box (h : Fr w0 R w) (e : TypeId) (cs : List Value) (hl : cs.length ≤ maxLen) : Fr w0 ((.slice (some ⟨w.heap.size, 0, none⟩) cs.length cs.length, e, cs) :: R) (w.alloc (.cells cs.toArray e)) := by
  refine Fr.front (h.cons (al (Below.refl _ _) _) ?_ (fun b hb => by have e : w.heap.size = b := Option.some.inj hb; omega))
  exact ⟨by simp, .inr ⟨w.heap.size, cs.length, cs.toArray, rfl, h.bel.size, heap_alloc_new _ _, Nat.le_refl _, hl, by simp, by simp⟩⟩
theorem Fr.mkN (h : Fr w0 R w) {n : Nat} (m1 : w'.ownsRow w0.heap.size 3 1 (.slice (some ⟨w.heap.size, 0, none⟩) n n) n (madeCells (Value.int .i64 0).cells (n * 1)).toList) (m2 : w.grownBy w' none) : Fr w0 ((.slice (some ⟨w.heap.size, 0, none⟩) n n, 3, nCells (List.replicate n 0)) :: R) w' := (h.madeN m1 m2).front
end
end Go.Proofs.YtdgoilkgplnhfaaGreat
/-
  Parts of states, split further and further by one part after the other, each once: in the end they are the states of the same labels. Of no program: no condition.
-/
namespace Go.Proofs.YtdgoilkgplnhfaaGreat

/-- Parts ahead of k have been gone through. -/
structure HopS (D : DF) (k m : Nat) (f : Nat → Nat) : Prop where
  lt : ∀ s, s < D.n → f s < m
  co : ∀ s, s < D.n → ∀ t, t < D.n → D.Eqv s t → f s = f t
  ou : ∀ s, s < D.n → ∀ t, t < D.n → f s = f t → D.ou s = D.ou t
  hop : ∀ s, s < D.n → ∀ t, t < D.n → f s = f t → ∀ c, c < D.W → f (D.nx s c) = f (D.nx t c) ∨ k ≤ f (D.nx s c) ∨ k ≤ f (D.nx t c)
/-- Split by the part k, as it stood at first, by the columns ahead of C. -/
structure SplS (D : DF) (k m0 : Nat) (f0 : Nat → Nat) (C m : Nat) (f : Nat → Nat) : Prop where
  lt : ∀ s, s < D.n → f s < m
  mle : m0 ≤ m
  re : ∀ s, s < D.n → ∀ t, t < D.n → f s = f t → f0 s = f0 t
  st : ∀ c, c < C → ∀ s, s < D.n → ∀ t, t < D.n → f s = f t → (f0 (D.nx s c) = k ↔ f0 (D.nx t c) = k)
  kp : ∀ s, s < D.n → f s = f0 s ∨ m0 ≤ f s
  co : ∀ s, s < D.n → ∀ t, t < D.n → D.Eqv s t → f s = f t
section
variable {D : DF} {k m m0 C : Nat} {f f0 : Nat → Nat}
theorem SplS.start (h : HopS D k m f) : SplS D k m f 0 m f :=
  ⟨h.lt, Nat.le_refl _, fun _ _ _ _ e => e, fun c hc => by omega, fun _ _ => .inl rfl, h.co⟩
theorem SplS.next (hD : D.Pre) (h0 : HopS D k m0 f0) (h : SplS D k m0 f0 C m f) (hC : C < D.W) {m' : Nat} {f' : Nat → Nat} (hm : m ≤ m') (hlt : ∀ s, s < D.n → f' s < m') (hk : ∀ s, s < D.n → f' s = f s ∨ m ≤ f' s)
    (he : ∀ s, s < D.n → ∀ t, t < D.n → (f' s = f' t ↔ f s = f t ∧ (f0 (D.nx s C) = k ↔ f0 (D.nx t C) = k))) : SplS D k m0 f0 (C + 1) m' f' := by
  have ok := hD.toOk
  refine ⟨hlt, Nat.le_trans h.mle hm, fun s hs t ht e => h.re s hs t ht ((he s hs t ht).1 e).1, fun c hc s hs t ht e => ?_, fun s hs => ?_, fun s hs t ht e => ?_⟩
  · obtain ⟨e1, e2⟩ := (he s hs t ht).1 e
    by_cases h2 : c < C
    · exact h.st c h2 s hs t ht e1
    · have : c = C := by omega
      subst this
      exact e2
  · have := h.mle
    rcases hk s hs with h1 | h1
    · rcases h.kp s hs with h2 | h2
      · exact .inl (h1.trans h2)
      · exact .inr (by omega)
    · exact .inr (by omega)
  · obtain ⟨b, hb, rfl⟩ := hD.cols C hC
    have e2 := h0.co _ (ok.nx s hs _ (ok.bc b hb)) _ (ok.nx t ht _ (ok.bc b hb)) (e.step hb)
    exact (he s hs t ht).2 ⟨h.co s hs t ht e, by rw [e2]⟩
theorem HopS.next (hD : D.Ok) (h0 : HopS D k m0 f0) (hk : k < m0) (h : SplS D k m0 f0 D.W m f) : HopS D (k + 1) m f := by
  refine ⟨h.lt, h.co, fun s hs t ht e => h0.ou s hs t ht (h.re s hs t ht e), fun s hs t ht e c hc => ?_⟩
  have hx := hD.nx s hs c hc
  have hy := hD.nx t ht c hc
  have e1 := h0.hop s hs t ht (h.re s hs t ht e) c hc
  have e2 := h.st c hc s hs t ht e
  generalize D.nx s c = x at *
  generalize D.nx t c = y at *
  rcases h.kp x hx with p1 | p1
  · rcases h.kp y hy with p2 | p2
    · rw [p1, p2]
      omega
    · exact .inr (.inr (by omega))
  · exact .inr (.inl (by omega))
theorem HopS.same (hD : D.Ok) (hs : ∀ s, s < D.n → ∀ t, t < D.n → f s = f t → D.ou s = D.ou t) (hn : ∀ s, s < D.n → ∀ t, t < D.n → f s = f t → ∀ c, c < D.W → f (D.nx s c) = f (D.nx t c)) : ∀ {u : List Nat} {s t : Nat}, s < D.n → t < D.n → f s = f t → Txt u → D.lab s u = D.lab t u
  | [], s, t, h1, h2, e, _ => hs s h1 t h2 e
  | b :: u, s, t, h1, h2, e, hu => by
    have hb := hu.tail.1
    have := HopS.same hD hs hn (hD.step h1 hb) (hD.step h2 hb) (hn s h1 t h2 e _ (hD.bc b hb)) hu.tail.2
    exact this
/-- All parts gone through. -/
theorem HopS.done (hD : D.Ok) (h : HopS D m m f) : ∀ s, s < D.n → ∀ t, t < D.n → (f s = f t ↔ D.Eqv s t) := fun s hs t ht =>
  ⟨fun e u hu => HopS.same hD h.ou (fun s hs t ht e c hc => by
    have := h.hop s hs t ht e c hc
    have := h.lt _ (hD.nx s hs c hc)
    have := h.lt _ (hD.nx t ht c hc)
    omega) hs ht e hu, h.co s hs t ht⟩
/-- Each state stands alone. -/
theorem HopS.alone (h : HopS D k m f) (hi : ∀ s, s < D.n → ∀ t, t < D.n → f s = f t → s = t) : ∀ s, s < D.n → ∀ t, t < D.n → (f s = f t ↔ D.Eqv s t) := fun s hs t ht =>
  ⟨fun e => by rw [hi s hs t ht e]; exact DF.Eqv.refl _ _, h.co s hs t ht⟩
end
/-- So many states that no two of them have the same labels. -/
def Many (D : DF) (N : Nat) : Prop := ∃ g : Nat → Nat, (∀ i, i < N → g i < D.n) ∧ ∀ i, i < N → ∀ j, j < N → D.Eqv (g i) (g j) → i = j
theorem HopS.many {D : DF} {k m : Nat} {f : Nat → Nat} (h : HopS D k m f) (hne : ∀ r, r < m → ∃ s, s < D.n ∧ f s = r) : Many D m := by
  have hc : ∀ r, ∃ s, r < m → s < D.n ∧ f s = r := fun r => by
    by_cases hr : r < m
    · obtain ⟨s, hs⟩ := hne r hr
      exact ⟨s, fun _ => hs⟩
    · exact ⟨0, fun h => absurd h hr⟩
  refine ⟨fun r => (hc r).choose, fun i hi => ((hc i).choose_spec hi).1, fun i hi j hj e => ?_⟩
  have h1 := (hc i).choose_spec hi
  have h2 := (hc j).choose_spec hj
  have := h.co _ h1.1 _ h2.1 e
  rw [h1.2, h2.2] at this
  exact this
theorem pigeon : ∀ (M N : Nat) (g : Nat → Nat), (∀ i, i < N → g i < M) → (∀ i, i < N → ∀ j, j < N → g i = g j → i = j) → N ≤ M
  | _, 0, _, _, _ => Nat.zero_le _
  | 0, N + 1, g, h, _ => absurd (h 0 (by omega)) (by omega)
  | M + 1, N + 1, g, h, hi => by
    have := pigeon M N (fun i => if g i = M then g N else g i) (fun i hi' => by
      have h1 := h i (by omega)
      have h2 := h N (by omega)
      by_cases e : g i = M
      · rw [if_pos e]
        have : ¬ g N = M := fun e2 => by have := hi i (by omega) N (by omega) (by omega); omega
        omega
      · rw [if_neg e]; omega) (fun i hi' j hj e => by
      have hij := hi i (by omega) j (by omega)
      have hiN := hi i (by omega) N (by omega)
      have hjN := hi j (by omega) N (by omega)
      by_cases e1 : g i = M
      · by_cases e2 : g j = M
        · exact hij (by omega)
        · rw [if_pos e1, if_neg e2] at e; omega
      · by_cases e2 : g j = M
        · rw [if_neg e1, if_pos e2] at e; omega
        · rw [if_neg e1, if_neg e2] at e; exact hij e)
    omega
/-- Two automata that say the same have the same parts. -/
theorem Many.le {D E : DF} {N : Nat} (hD : Many D N) (hr : ∀ s, s < D.n → ∃ t, Txt t ∧ D.run 0 t = s) (hE : E.Ok) (hl : ∀ t, Txt t → D.lab 0 t = E.lab 0 t) : N ≤ E.n := by
  obtain ⟨g, h1, h2⟩ := hD
  have hc : ∀ i, ∃ s', i < N → s' < E.n ∧ ∀ u, Txt u → E.lab s' u = D.lab (g i) u := fun i => by
    by_cases hi : i < N
    · obtain ⟨t, k1, k2⟩ := hr (g i) (h1 i hi)
      refine ⟨E.run 0 t, fun _ => ⟨hE.run hE.n0 k1, fun u hu => ?_⟩⟩
      have := hl (t ++ u) (k1.app hu)
      unfold DF.lab at this ⊢
      rw [DF.run_app, DF.run_app, k2] at this
      exact this.symm
    · exact ⟨0, fun h => absurd h hi⟩
  refine pigeon E.n N (fun i => (hc i).choose) (fun i hi => ((hc i).choose_spec hi).1) (fun i hi j hj e => h2 i hi j hj (fun u hu => ?_))
  have e' : (hc i).choose = (hc j).choose := e
  rw [← ((hc i).choose_spec hi).2 u hu, ← ((hc j).choose_spec hj).2 u hu, e']
end Go.Proofs.YtdgoilkgplnhfaaGreat
