/-
  slices.Clone and Make by their contracts: the set of all numbers of the spans, or the error. Condition: a list has at most 2^32 spans.
-/
import Derived.Test.YtaiijdnfimclbaaMk
import Derived.Lib.SliceRun
namespace Go.Proofs.Ytaiijdnfimclbaa
open Go.RowKit Go.Lib

theorem Try.info59' : ∃ i, Try.prog.info? 59 = some i ∧ i.zero = some (.agg #[.int .i64 0, .int .i64 0]) ∧ i.size = 2 ∧ i.bytes = 16 := by
  have := Try.info59
  cases h : Try.prog.info? 59 with
  | none => rw [h] at this; simp at this
  | some i =>
    rw [h] at this
    have := Option.some.inj this
    simp only [Prod.mk.injEq] at this
    exact ⟨i, rfl, this⟩
theorem addr_add (b off n : Nat) : (⟨b, off, none⟩ : Addr).add n = ⟨b, off + n, none⟩ := by unfold Addr.add; split <;> simp_all
theorem SpAt.cells {w : World} {a : Addr} {L : List Spn} (h : SpAt w (some a) L) : ∀ j u, (spCells L)[j]? = some u → w.cell? (a.add j) = some u := by
  intro j u hu
  have hj : j < L.length * 2 := by
    rw [← spCells_length]
    rcases Nat.lt_or_ge j (spCells L).length with h | h
    · exact h
    · rw [List.getElem?_eq_none h] at hu; cases hu
  obtain ⟨b, off, e, _, hc⟩ := h.get (i := j / 2) (by omega)
  cases e
  obtain ⟨a1, a2⟩ := spCells_get L (j / 2) (by omega)
  obtain ⟨c1, c2⟩ := hc (j / 2) (by omega)
  rw [addr_add]
  rcases Nat.mod_two_eq_zero_or_one j with hm | hm
  · rw [show j / 2 * 2 = j by omega] at a1 c1
    rw [hu] at a1
    rw [c1, a1]
  · rw [show j / 2 * 2 + 1 = j by omega] at a2
    rw [show off + j / 2 * 2 + 1 = off + j by omega] at c2
    rw [hu] at a2
    rw [c2, a2]

set_option maxRecDepth 100000 in
set_option maxHeartbeats 1000000 in
theorem clone_any (ao : Option Addr) (cap : Nat) (L : List Spn) (w : World) (hl : L.length ≤ 4294967296) (hat : SpAt w ao L) :
    Calls Try.prog 80 #[.slice ao L.length cap] w fun e w' => ∃ v', e = .returned v' ∧ OwnS w' w.heap.size v' L ∧ Below w.heap.size w w' := by
  obtain ⟨i0, hi, hz0, hz1, hz2⟩ := Try.info59'
  have hnil := fun (a : Option Addr) (n c : Nat) (W : World) => run_eql_slice_nil (P := Try.prog) W 42 59 a n c 0 0 Try.underlying42
  cases ao with
  | none =>
    have hL : L = [] := by
      rcases hat with h | ⟨b, off, e, _⟩
      · exact h
      · cases e
    subst hL
    simp only [List.length_nil]
    go_enter Try.func80, Try.ntmps80
    go_wp2
    go_ret
    exact ⟨_, rfl, OwnS.nil _ _, Below.refl _ _⟩
  | some a =>
    have hb1 : Below w.heap.size w (w.alloc (.cells #[] 59)) := (Below.refl _ _).alloc (Nat.le_refl _) _
    have HN := hide (hat.below hb1).cells
    have HO : Hid ((w.alloc (.cells #[] 59)).ownsRow w.heap.size 59 2 (.slice (some ⟨w.heap.size, 0, none⟩) 0 0) 0 []) := ⟨rfl, .inr ⟨w.heap.size, 0, #[], rfl, Nat.le_refl _, by show (w.heap.push _)[_]? = _; simp, Nat.le_refl _, by decide, rfl, rfl⟩⟩
    have HB := hide hb1
    have HL := hide (spCells_length L)
    clear hat hb1
    go_enter Try.func80, Try.ntmps80
    go_wp2_with (at_builtin; refine wpList_append_own_at _ rfl (.tmp 5) (.tmp 6) 42 rfl w.heap.size 59 i0 (.agg #[.int .i64 0, .int .i64 0]) 2 16 Try.underlying42 hi hz0 hz1 hz2 rfl (by decide) _ 0 [] rfl HO.out a L.length cap (spCells L) rfl HL.out HN.out (spCells_one L) (by unfold maxLen; omega) (by omega) HB.out.size ?_; intro v8 w8 h1 h2 _ h3; have H1 := hide h1; have H2 := hide h2; clear h1 h2 h3)
    go_ret
    refine ⟨_, rfl, ?_, HB.out.grown H2.out HB.out.size (fun k hk => by cases hk; exact Nat.le_refl _)⟩
    have := H1.out
    rw [Nat.zero_add, List.nil_append] at this
    exact this

theorem take_last {A : List Spn} (h : IsSet A) : ∀ B z, A = B ++ [z] → 0 ≤ z.2 ∧ z.2 ≤ 4294967295 := by
  rintro B z rfl
  have := h.1 z (by simp)
  unfold Bnd at this
  omega
theorem take_getD (M : List Spn) (k : Nat) (hk : k < M.length) : M.take (k + 1) = M.take k ++ [M.getD k (0, 0)] := by
  rw [List.take_succ_eq_append_getElem hk]
  simp [List.getD_eq_getElem?_getD, hk]

set_option maxRecDepth 100000 in
set_option maxHeartbeats 2000000 in
theorem make_any (ao : Option Addr) (cap : Nat) (L : List Spn) (w : World) (hl : L.length ≤ 4294967296) (hat : SpAt w ao L) :
    Calls Try.prog 68 #[.slice ao L.length cap] w fun e w' => Below w.heap.size w w' ∧
      (((∀ s ∈ L, Bnd s) ∧ ∃ v' M, e = .returned (.tuple #[v', .int .i64 0]) ∧ OwnS w' w.heap.size v' M ∧ IsSet M ∧ (∀ n, memB n M = memB n L) ∧ M.length ≤ L.length) ∨
       ((¬ ∀ s ∈ L, Bnd s) ∧ e = .returned (.tuple #[.slice none 0 0, .int .i64 20]))) := by
  go_enter Try.func68, Try.ntmps68
  go_wp2
  go_loopw [12] (fun i wr => ∃ k : Nat, k ≤ L.length ∧ i = .int .i64 k ∧ Hid (∀ j, j < k → Bnd (L.getD j (0, 0))) ∧ Below w.heap.size w wr) (fun i _ => L.length - (intOf i).toNat)
  case atStart => exact ⟨0, Nat.zero_le _, rfl, fun j hj => absurd hj (by omega), Below.refl _ _⟩
  case round =>
    obtain ⟨k, hk, rfl, hok, hq⟩ := hrel
    have HQ := hide hq
    clear hq
    by_cases hlt : k < L.length
    · obtain ⟨b, off, rfl, hb, hc⟩ := hat.get hlt
      obtain ⟨c1, c2⟩ := (hc k hlt).below HQ.out hb
      obtain ⟨s, hs⟩ : ∃ s, s = L.getD k (0, 0) := ⟨_, rfl⟩
      rw [← hs] at c1 c2
      have HS := hide hs
      have hcon := bounded_any s.1 s.2 (wr.alloc (.cells #[.int .i64 s.1, .int .i64 s.2] 59))
      have hb1 : Below w.heap.size w (wr.alloc (.cells #[.int .i64 s.1, .int .i64 s.2] 59)) := HQ.out.trans (((Below.refl _ _).alloc (Nat.le_refl _) _).mono HQ.out.size)
      have HB1 := hide hb1
      clear hs hc hat hb1
      by_cases hbd : Bnd s
      · rw [decide_eq_true hbd] at hcon
        go_wp2_with (go_at_call 79; refine hcon.mono ?_; rintro e w2 ⟨rfl, x2⟩; have X2 := hide x2; clear x2)
        go_roundw
        case rel =>
          refine ⟨k + 1, by omega, by go_num, fun j hj => ?_, HB1.out.trans (X2.out.mono HB1.out.size)⟩
          rcases Nat.lt_or_ge j k with h | h
          · exact hok.out j h
          · rw [show j = k by omega, ← HS.out]; exact hbd
        case measure => simp [intOf]; omega
      · rw [decide_eq_false hbd] at hcon
        go_wp2_with (go_at_call 79; refine hcon.mono ?_; rintro e w2 ⟨rfl, x2⟩; have X2 := hide x2; clear x2)
        go_ret2
        refine ⟨HB1.out.trans (X2.out.mono HB1.out.size), .inr ⟨fun h => hbd ?_, rfl⟩⟩
        rw [HS.out]
        have := h L[k] (List.getElem_mem hlt)
        simpa [List.getD_eq_getElem?_getD, hlt] using this
    · have h8 : k = L.length := by omega
      subst h8
      have hall : ∀ s ∈ L, Bnd s := fun s hs => by
        obtain ⟨i, hi, rfl⟩ := List.getElem_of_mem hs
        simpa [List.getD_eq_getElem?_getD, hi] using hok.out i hi
      have hcl := clone_any ao cap L wr hl (hat.below (HQ.out.mono (Nat.le_refl _)))
      have HALL := hide hall
      clear hall hat
      have hso : ∀ (v1 : Value) (w1 : World), OwnS w1 wr.heap.size v1 L → Below wr.heap.size wr w1 → Calls Try.prog 81 #[v1, .func (.func 82) #[] #[]] w1 fun e w' => e = .returned (.tuple #[]) ∧ ∃ (a1 : Option Addr) (c1 : Nat) (M : List Spn), v1 = .slice a1 L.length c1 ∧ M.Perm L ∧ M.Pairwise (fun s t => s.1 ≤ t.1) ∧ SpAt w' a1 M ∧ Below wr.heap.size wr w' := by
        intro v1 w1 ho hb
        have hh : w1.ownsRow wr.heap.size 59 2 v1 L.length (spCells L) := ho
        rcases hh.2 with ⟨rfl, hn⟩ | ⟨g, cap', cur, rfl, hbg, hg, _⟩
        · have hL := List.length_eq_zero_iff.1 hn
          subst hL
          have := AnyF.slices_SortFunc_none Try.sortSp none 0 (.func (.func 82) #[] #[]) w1
          change Calls Try.prog 81 _ _ _ at this
          refine this.mono ?_
          rintro e w' ⟨rfl, rfl⟩
          exact ⟨rfl, none, 0, [], rfl, List.Perm.refl _, List.Pairwise.nil, .inl rfl, hb⟩
        · refine (sort_any w1 wr.heap.size g cap' L ho (by omega)).mono ?_
          rintro e w' ⟨rfl, M, m1, m2, m3, m4⟩
          exact ⟨rfl, _, cap', M, rfl, m1, m2, m3, hb.trans (m4.below hb.size (fun i hi => by subst hi; exact hbg))⟩
      go_wp2_with (first | (go_at_call 80; refine hcl.mono ?_; rintro e w1 ⟨v1, rfl, o1, x1⟩; have O1 := hide o1; have X1 := hide x1; clear o1 x1) | (go_at_call 81; refine (hso _ _ O1.out X1.out).mono ?_; rintro e w2 ⟨rfl, a1, c1, M, hv1, m1, m2, m3, x2⟩; subst hv1; have M1 := hide m1; have M2 := hide m2; have M3 := hide m3; have X2 := hide x2; clear m1 m2 m3 x2))
      have hml : M.length = L.length := M1.out.length_eq
      have HBW : Hid (Below w.heap.size w w2) := HQ.out.trans (X2.out.mono HQ.out.size)
      have HMB : Hid (∀ s ∈ M, Bnd s) := fun s hs => HALL.out s (M1.out.mem_iff.1 hs)
      clear hcl hso
      go_loopw [7, 26] (fun o i wk => ∃ k : Nat, k ≤ L.length ∧ i = .int .i64 k ∧ Hid (OwnS wk w2.heap.size o (joinAll (M.take k))) ∧ Below w2.heap.size w2 wk) (fun _ i _ => L.length - (intOf i).toNat)
      case atStart => exact ⟨0, Nat.zero_le _, rfl, OwnS.nil _ _, Below.refl _ _⟩
      case round =>
        obtain ⟨k, hk, rfl, ho, hq⟩ := hrel
        have HQ2 := hide hq
        clear hq
        by_cases hlt : k < L.length
        · obtain ⟨b, off, rfl, hb, hc⟩ := M3.out.get (i := k) (by omega)
          obtain ⟨q1, q2⟩ := (hc k (by omega)).below HQ2.out hb
          obtain ⟨s, hs⟩ : ∃ s, s = M.getD k (0, 0) := ⟨_, rfl⟩
          rw [← hs] at q1 q2
          have hst := take_getD M k (by omega)
          rw [← hs] at hst
          have HST := hide hst
          have hA := (joinAll_spec _ (M.take k) rfl (fun s hs => HMB.out s (List.mem_of_mem_take hs)) (M2.out.sublist (List.take_sublist k M))).1
          have hb1 : Below w2.heap.size w2 (wr.alloc (.cells #[.int .i64 s.1, .int .i64 s.2] 59)) := HQ2.out.trans (((Below.refl _ _).alloc (Nat.le_refl _) _).mono HQ2.out.size)
          have HB1 := hide hb1
          have hjl := joinAll_length (M.take k)
          rw [List.length_take] at hjl
          have hcon := joined_any (wr.alloc (.cells #[.int .i64 s.1, .int .i64 s.2] 59)) w2.heap.size u7 (joinAll (M.take k)) s (ho.out.below ((Below.refl _ _).alloc (Nat.le_refl _) _)) hb1.size (by omega) (take_last hA)
          have HLT := hide (ho.out.lt)
          clear hs hc hst hA hb1 hjl ho
          go_wp2_with (go_at_call 84; refine hcon.mono ?_; rintro e w3 ⟨v3, rfl, o3, k3, _⟩; have O3 := hide o3; have K3 := hide k3; clear o3 k3)
          go_roundw
          case rel => exact ⟨k + 1, by omega, by go_num, by rw [HST.out, joinAll_snoc]; exact O3.out, HB1.out.trans (K3.out.below HB1.out.size (fun i hi => (HLT.out i hi).1))⟩
          case measure => simp [intOf]; omega
        · have h8 : k = L.length := by omega
          subst h8
          have e1 : M.take L.length = M := by rw [← hml, List.take_length]
          rw [e1] at ho
          go_wp2
          go_ret2
          obtain ⟨j1, j2, _⟩ := joinAll_spec _ M rfl HMB.out M2.out
          refine ⟨HBW.out.trans (HQ2.out.mono HBW.out.size), .inl ⟨HALL.out, u7, joinAll M, rfl, ho.out.mono HBW.out.size, j1, fun n => ?_, by have := joinAll_length M; omega⟩⟩
          rw [j2, Bool.eq_iff_iff, memB_iff, memB_iff]
          exact ⟨fun ⟨s, h1, h2⟩ => ⟨s, M1.out.mem_iff.1 h1, h2⟩, fun ⟨s, h1, h2⟩ => ⟨s, M1.out.mem_iff.2 h1, h2⟩⟩
end Go.Proofs.Ytaiijdnfimclbaa
