/-
  slices.Clone and Make by their contracts: the set of all numbers of the spans, or the error. Condition: a list has at most 2^32 spans.
-/
import Derived.Test.YthgikaklcglpiaaGreatDoorP39
import Derived.Lib.SliceRun
import Derived.Test.YthgikaklcglpiaaGreatDoorP25
import Derived.Laws.ResultCell
import Derived.Test.YthgikaklcglpiaaGreatDoorP26
namespace Go.Proofs.YthgikaklcglpiaaGreatDoor.L5
open Go.RowKit Go.Lib

theorem Tryz.info59' : ∃ i, Tryz.prog.info? 75 = some i ∧ i.zero = some (.agg #[.int .i64 0, .int .i64 0]) ∧ i.size = 2 ∧ i.bytes = 16 := by
  have := Tryz.info59
  cases h : Tryz.prog.info? 75 with
  | none => rw [h] at this; simp at this
  | some i =>
    rw [h] at this
    have := Option.some.inj this
    simp only [Prod.mk.injEq] at this
    exact ⟨i, rfl, this⟩
theorem addr_addM (b off n : Nat) : (⟨b, off, none⟩ : Addr).add n = ⟨b, off + n, none⟩ := by unfold Addr.add; split <;> simp_all
theorem SpAt.cells {w : World} {a : Addr} {L : List Spn} (h : SpAt w (some a) L) : ∀ j u, (spCells L)[j]? = some u → w.cell? (a.add j) = some u := by
  intro j u hu
  have hj : j < L.length * 2 := by
    rw [← spCells_length]
    rcases Nat.lt_or_ge j (spCells L).length with h | h
    · exact h
    · rw [List.getElem?_eq_none h] at hu; cases hu
  obtain ⟨b, off, e, _, hc⟩ := h.get (i := j / 2) (by omega)
  cases e
  obtain ⟨a1, a2⟩ := spCells_get L (j / 2) (by omega)
  obtain ⟨c1, c2⟩ := hc (j / 2) (by omega)
  rw [addr_addM]
  rcases Nat.mod_two_eq_zero_or_one j with hm | hm
  · rw [show j / 2 * 2 = j by omega] at a1 c1
    rw [hu] at a1
    rw [c1, a1]
  · rw [show j / 2 * 2 + 1 = j by omega] at a2
    rw [show off + j / 2 * 2 + 1 = off + j by omega] at c2
    rw [hu] at a2
    rw [c2, a2]

set_option maxRecDepth 100000 in
set_option maxHeartbeats 1000000 in
theorem clone_any (ao : Option Addr) (cap : Nat) (L : List Spn) (w : World) (hl : L.length ≤ 4294967296) (hat : SpAt w ao L) :
    Calls Tryz.prog 221 #[.slice ao L.length cap] w fun e w' => ∃ v', e = .returned v' ∧ OwnS w' w.heap.size v' L ∧ Below w.heap.size w w' := by
  obtain ⟨i0, hi, hz0, hz1, hz2⟩ := Tryz.info59'
  have hnil := fun (a : Option Addr) (n c : Nat) (W : World) => run_eql_slice_nil (P := Tryz.prog) W 23 75 a n c 0 0 Tryz.underlying23
  cases ao with
  | none =>
    have hL : L = [] := by
      rcases hat with h | ⟨b, off, e, _⟩
      · exact h
      · cases e
    subst hL
    simp only [List.length_nil]
    go_enter Tryz.func221, Tryz.ntmps221
    go_wp2
    go_ret
    exact ⟨_, rfl, OwnS.nil _ _, Below.refl _ _⟩
  | some a =>
    have hb1 : Below w.heap.size w (w.alloc (.cells #[] 75)) := (Below.refl _ _).alloc (Nat.le_refl _) _
    have HN := hide (hat.below hb1).cells
    have HO : Hid ((w.alloc (.cells #[] 75)).ownsRow w.heap.size 75 2 (.slice (some ⟨w.heap.size, 0, none⟩) 0 0) 0 []) := ⟨rfl, .inr ⟨w.heap.size, 0, #[], rfl, Nat.le_refl _, by show (w.heap.push _)[_]? = _; simp, Nat.le_refl _, by decide, rfl, rfl⟩⟩
    have HB := hide hb1
    have HL := hide (spCells_length L)
    clear hat hb1
    go_enter Tryz.func221, Tryz.ntmps221
    go_wp2_with (at_builtin; refine wpList_append_own_at _ rfl (.tmp 5) (.tmp 6) 23 rfl w.heap.size 75 i0 (.agg #[.int .i64 0, .int .i64 0]) 2 16 Tryz.underlying23 hi hz0 hz1 hz2 rfl (by decide) _ 0 [] rfl HO.out a L.length cap (spCells L) rfl HL.out HN.out (spCells_one L) (by unfold maxLen; omega) (by omega) HB.out.size ?_; intro v8 w8 h1 h2 _ h3; have H1 := hide h1; have H2 := hide h2; clear h1 h2 h3)
    go_ret
    refine ⟨_, rfl, ?_, HB.out.grown H2.out HB.out.size (fun k hk => by cases hk; exact Nat.le_refl _)⟩
    have := H1.out
    rw [Nat.zero_add, List.nil_append] at this
    exact this

theorem take_last {A : List Spn} (h : IsSet A) : ∀ B z, A = B ++ [z] → 0 ≤ z.2 ∧ z.2 ≤ 4294967295 := by
  rintro B z rfl
  have := h.1 z (by simp)
  unfold Bnd at this
  omega
theorem take_getD (M : List Spn) (k : Nat) (hk : k < M.length) : M.take (k + 1) = M.take k ++ [M.getD k (0, 0)] := by
  rw [List.take_succ_eq_append_getElem hk]
  simp [List.getD_eq_getElem?_getD, hk]

set_option maxRecDepth 100000 in
set_option maxHeartbeats 2000000 in
theorem make_any (ao : Option Addr) (cap : Nat) (L : List Spn) (w : World) (hl : L.length ≤ 4294967296) (hat : SpAt w ao L) :
    Calls Tryz.prog 168 #[.slice ao L.length cap] w fun e w' => Below w.heap.size w w' ∧
      (((∀ s ∈ L, Bnd s) ∧ ∃ v' M, e = .returned (.tuple #[v', .int .i64 0]) ∧ OwnS w' w.heap.size v' M ∧ IsSet M ∧ (∀ n, memB n M = memB n L) ∧ M.length ≤ L.length) ∨
       ((¬ ∀ s ∈ L, Bnd s) ∧ e = .returned (.tuple #[.slice none 0 0, .int .i64 20]))) := by
  go_enter Tryz.func168, Tryz.ntmps168
  go_wp2
  go_loopw [12] (fun i wr => ∃ k : Nat, k ≤ L.length ∧ i = .int .i64 k ∧ Hid (∀ j, j < k → Bnd (L.getD j (0, 0))) ∧ Below w.heap.size w wr) (fun i _ => L.length - (intOf i).toNat)
  case atStart => exact ⟨0, Nat.zero_le _, rfl, fun j hj => absurd hj (by omega), Below.refl _ _⟩
  case round =>
    obtain ⟨k, hk, rfl, hok, hq⟩ := hrel
    have HQ := hide hq
    clear hq
    by_cases hlt : k < L.length
    · obtain ⟨b, off, rfl, hb, hc⟩ := hat.get hlt
      obtain ⟨c1, c2⟩ := (hc k hlt).below HQ.out hb
      obtain ⟨s, hs⟩ : ∃ s, s = L.getD k (0, 0) := ⟨_, rfl⟩
      rw [← hs] at c1 c2
      have HS := hide hs
      have hcon := bounded_any s.1 s.2 (wr.alloc (.cells #[.int .i64 s.1, .int .i64 s.2] 75))
      have hb1 : Below w.heap.size w (wr.alloc (.cells #[.int .i64 s.1, .int .i64 s.2] 75)) := HQ.out.trans (((Below.refl _ _).alloc (Nat.le_refl _) _).mono HQ.out.size)
      have HB1 := hide hb1
      clear hs hc hat hb1
      by_cases hbd : Bnd s
      · rw [decide_eq_true hbd] at hcon
        go_wp2_with (go_at_call 220; refine hcon.mono ?_; rintro e w2 ⟨rfl, x2⟩; have X2 := hide x2; clear x2)
        go_roundw
        case rel =>
          refine ⟨k + 1, by omega, by go_num, fun j hj => ?_, HB1.out.trans (X2.out.mono HB1.out.size)⟩
          rcases Nat.lt_or_ge j k with h | h
          · exact hok.out j h
          · rw [show j = k by omega, ← HS.out]; exact hbd
        case measure => simp [intOf]; omega
      · rw [decide_eq_false hbd] at hcon
        go_wp2_with (go_at_call 220; refine hcon.mono ?_; rintro e w2 ⟨rfl, x2⟩; have X2 := hide x2; clear x2)
        go_ret2
        refine ⟨HB1.out.trans (X2.out.mono HB1.out.size), .inr ⟨fun h => hbd ?_, rfl⟩⟩
        rw [HS.out]
        have := h L[k] (List.getElem_mem hlt)
        simpa [List.getD_eq_getElem?_getD, hlt] using this
    · have h8 : k = L.length := by omega
      subst h8
      have hall : ∀ s ∈ L, Bnd s := fun s hs => by
        obtain ⟨i, hi, rfl⟩ := List.getElem_of_mem hs
        simpa [List.getD_eq_getElem?_getD, hi] using hok.out i hi
      have hcl := clone_any ao cap L wr hl (hat.below (HQ.out.mono (Nat.le_refl _)))
      have HALL := hide hall
      clear hall hat
      have hso : ∀ (v1 : Value) (w1 : World), OwnS w1 wr.heap.size v1 L → Below wr.heap.size wr w1 → Calls Tryz.prog 222 #[v1, .func (.func 223) #[] #[]] w1 fun e w' => e = .returned (.tuple #[]) ∧ ∃ (a1 : Option Addr) (c1 : Nat) (M : List Spn), v1 = .slice a1 L.length c1 ∧ M.Perm L ∧ M.Pairwise (fun s t => s.1 ≤ t.1) ∧ SpAt w' a1 M ∧ Below wr.heap.size wr w' := by
        intro v1 w1 ho hb
        have hh : w1.ownsRow wr.heap.size 75 2 v1 L.length (spCells L) := ho
        rcases hh.2 with ⟨rfl, hn⟩ | ⟨g, cap', cur, rfl, hbg, hg, _⟩
        · have hL := List.length_eq_zero_iff.1 hn
          subst hL
          have := AnyF.slices_SortFunc_none Tryz.sortSp none 0 (.func (.func 223) #[] #[]) w1
          change Calls Tryz.prog 222 _ _ _ at this
          refine this.mono ?_
          rintro e w' ⟨rfl, rfl⟩
          exact ⟨rfl, none, 0, [], rfl, List.Perm.refl _, List.Pairwise.nil, .inl rfl, hb⟩
        · refine (sort_any w1 wr.heap.size g cap' L ho (by omega)).mono ?_
          rintro e w' ⟨rfl, M, m1, m2, m3, m4⟩
          exact ⟨rfl, _, cap', M, rfl, m1, m2, m3, hb.trans (m4.below hb.size (fun i hi => by subst hi; exact hbg))⟩
      go_wp2_with (first | (go_at_call 221; refine hcl.mono ?_; rintro e w1 ⟨v1, rfl, o1, x1⟩; have O1 := hide o1; have X1 := hide x1; clear o1 x1) | (go_at_call 222; refine (hso _ _ O1.out X1.out).mono ?_; rintro e w2 ⟨rfl, a1, c1, M, hv1, m1, m2, m3, x2⟩; subst hv1; have M1 := hide m1; have M2 := hide m2; have M3 := hide m3; have X2 := hide x2; clear m1 m2 m3 x2))
      have hml : M.length = L.length := M1.out.length_eq
      have HBW : Hid (Below w.heap.size w w2) := HQ.out.trans (X2.out.mono HQ.out.size)
      have HMB : Hid (∀ s ∈ M, Bnd s) := fun s hs => HALL.out s (M1.out.mem_iff.1 hs)
      clear hcl hso
      go_loopw [7, 26] (fun o i wk => ∃ k : Nat, k ≤ L.length ∧ i = .int .i64 k ∧ Hid (OwnS wk w2.heap.size o (joinAll (M.take k))) ∧ Below w2.heap.size w2 wk) (fun _ i _ => L.length - (intOf i).toNat)
      case atStart => exact ⟨0, Nat.zero_le _, rfl, OwnS.nil _ _, Below.refl _ _⟩
      case round =>
        obtain ⟨k, hk, rfl, ho, hq⟩ := hrel
        have HQ2 := hide hq
        clear hq
        by_cases hlt : k < L.length
        · obtain ⟨b, off, rfl, hb, hc⟩ := M3.out.get (i := k) (by omega)
          obtain ⟨q1, q2⟩ := (hc k (by omega)).below HQ2.out hb
          obtain ⟨s, hs⟩ : ∃ s, s = M.getD k (0, 0) := ⟨_, rfl⟩
          rw [← hs] at q1 q2
          have hst := take_getD M k (by omega)
          rw [← hs] at hst
          have HST := hide hst
          have hA := (joinAll_spec _ (M.take k) rfl (fun s hs => HMB.out s (List.mem_of_mem_take hs)) (M2.out.sublist (List.take_sublist k M))).1
          have hb1 : Below w2.heap.size w2 (wr.alloc (.cells #[.int .i64 s.1, .int .i64 s.2] 75)) := HQ2.out.trans (((Below.refl _ _).alloc (Nat.le_refl _) _).mono HQ2.out.size)
          have HB1 := hide hb1
          have hjl := joinAll_length (M.take k)
          rw [List.length_take] at hjl
          have hcon := joined_any (wr.alloc (.cells #[.int .i64 s.1, .int .i64 s.2] 75)) w2.heap.size u7 (joinAll (M.take k)) s (ho.out.below ((Below.refl _ _).alloc (Nat.le_refl _) _)) hb1.size (by omega) (take_last hA)
          have HLT := hide (ho.out.lt)
          clear hs hc hst hA hb1 hjl ho
          go_wp2_with (go_at_call 225; refine hcon.mono ?_; rintro e w3 ⟨v3, rfl, o3, k3, _⟩; have O3 := hide o3; have K3 := hide k3; clear o3 k3)
          go_roundw
          case rel => exact ⟨k + 1, by omega, by go_num, by rw [HST.out, joinAll_snoc]; exact O3.out, HB1.out.trans (K3.out.below HB1.out.size (fun i hi => (HLT.out i hi).1))⟩
          case measure => simp [intOf]; omega
        · have h8 : k = L.length := by omega
          subst h8
          have e1 : M.take L.length = M := by rw [← hml, List.take_length]
          rw [e1] at ho
          go_wp2
          go_ret2
          obtain ⟨j1, j2, _⟩ := joinAll_spec _ M rfl HMB.out M2.out
          refine ⟨HBW.out.trans (HQ2.out.mono HBW.out.size), .inl ⟨HALL.out, u7, joinAll M, rfl, ho.out.mono HBW.out.size, j1, fun n => ?_, by have := joinAll_length M; omega⟩⟩
          rw [j2, Bool.eq_iff_iff, memB_iff, memB_iff]
          exact ⟨fun ⟨s, h1, h2⟩ => ⟨s, M1.out.mem_iff.1 h1, h2⟩, fun ⟨s, h1, h2⟩ => ⟨s, M1.out.mem_iff.2 h1, h2⟩⟩
end Go.Proofs.YthgikaklcglpiaaGreatDoor.L5
/-
  What makes a test of ports, of a header that there is: ofSpans, ports, has by their contracts. Condition: lists no longer than a process can hold.
-/
namespace Go.Proofs.YthgikaklcglpiaaGreatDoor.L5
open Go.RowKit Go.Lib

set_option maxRecDepth 100000 in
set_option maxHeartbeats 2000000 in
theorem ofSpans_ok (ao : Option Addr) (cap : Nat) (L : List Spn) (w : World) (hl : L.length ≤ 4294967296) (hat : SpAt w ao L) (hb : ∀ s ∈ L, Bnd s) :
    Calls Tryz.prog 114 #[.slice ao L.length cap] w fun e w' => (∃ so M sc, e = .returned (.tuple #[.agg #[.int .i64 0, .string ⟨#[]⟩, .slice so M.length sc, .slice none 0 0, .slice none 0 0], .bool true]) ∧ SpAt w' so M ∧ (∀ a, so = some a → w.heap.size ≤ a.block ∧ a.block < w'.heap.size) ∧ IsSet M ∧ (∀ n, memB n M = memB n L) ∧ M.length ≤ L.length) ∧ Below w.heap.size w w' := by
  have X0 := hide (show Below w.heap.size w (w.alloc (.cells #[.int .i64 0, .string ⟨#[]⟩, .slice none 0 0, .slice none 0 0, .slice none 0 0] 35)) from al (Below.refl _ _) _)
  have B0 := hide (heap_alloc_new w (.cells #[.int .i64 0, .string ⟨#[]⟩, .slice none 0 0, .slice none 0 0, .slice none 0 0] 35))
  have HM := hide (make_any ao cap L _ hl (hat.below X0.out))
  have HB := hide hb
  clear hat hb
  obtain ⟨R, hR⟩ : ∃ R, R = w.heap.size := ⟨_, rfl⟩
  have HRW : Hid (w.heap.size ≤ R) := by unfold Hid; omega
  go_enter Tryz.func114, Tryz.ntmps114
  go_upto_region 1 with fail
  rw [← hR] at B0 ⊢
  have HRE := hide hR
  clear hR
  generalize w.alloc (.cells #[.int .i64 0, .string ⟨#[]⟩, .slice none 0 0, .slice none 0 0, .slice none 0 0] 35) = W at *
  go_wp2_with (fail)
  refine HM.out.mono ?_
  rintro e w1 ⟨x1, h1⟩
  rcases h1 with ⟨_, v, M, rfl, hO, hS, hmem, hlen⟩ | ⟨hno, _⟩
  · obtain ⟨so, sc, rfl, hsp, hfr⟩ := hO.shape
    have B1 := hide ((x1.block R (lt_of_block B0.out)).trans B0.out)
    have X1 := hide (bt X0.out x1 (Nat.le_refl _))
    have HFIN : Hid (∀ V, Kept (fun k => k = R) w1 V → (∃ so' M' sc', (.returned (.tuple #[.agg #[.int .i64 0, .string ⟨#[]⟩, .slice so M.length sc, .slice none 0 0, .slice none 0 0], .bool true]) : Ending) = .returned (.tuple #[.agg #[.int .i64 0, .string ⟨#[]⟩, .slice so' M'.length sc', .slice none 0 0, .slice none 0 0], .bool true]) ∧ SpAt V so' M' ∧ (∀ a, so' = some a → w.heap.size ≤ a.block ∧ a.block < V.heap.size) ∧ IsSet M' ∧ (∀ n, memB n M' = memB n L) ∧ M'.length ≤ L.length) ∧ Below w.heap.size w V) := fun V hk => by
      have hlt := lt_of_block B0.out
      have hsz := X0.out.size
      refine ⟨⟨so, M, sc, rfl, hsp.kept hk (fun a ha f => ?_), fun a ha => ?_, hS, hmem, hlen⟩, ?_⟩
      · have := (hfr a ha).1; omega
      · have := hfr a ha; have := hk.size; omega
      · exact X1.out.trans (hk.below (Nat.le_trans HRW.out (by have := x1.size; omega)) (fun i hi => by rw [hi]; exact HRW.out))
    clear hO hsp hfr hS hmem hlen x1 HM X0 B0
    generalize M.length = lM at *
    obtain ⟨s0, s1, s2, s3, s4⟩ := five_of B1.out
    have f0 := frozen_of_row w1 R 0 _ _ B1.out
    have f1 := frozen_of_row w1 R 1 _ _ B1.out
    have f2 := frozen_of_row w1 R 2 _ _ B1.out
    have f3 := frozen_of_row w1 R 3 _ _ B1.out
    have f4 := frozen_of_row w1 R 4 _ _ B1.out
    go_wp2
    refine bodyPost_ret (v := .tuple #[.agg #[.int .i64 0, .string ⟨#[]⟩, .slice so lM sc, .slice none 0 0, .slice none 0 0], .bool true]) ?_ rfl ?_
    · rw [results_cell_tmp rfl]
      go_simp
    · exact HFIN.out _ ((((((Kept.refl (fun k => k = R) w1).setCell (p := ⟨R, 0, none⟩) rfl _).setCell (p := ⟨R, 1, none⟩) rfl _).setCell (p := ⟨R, 2, none⟩) rfl _).setCell (p := ⟨R, 3, none⟩) rfl _).setCell (p := ⟨R, 4, none⟩) rfl _)
  · exact absurd HB.out hno
end Go.Proofs.YthgikaklcglpiaaGreatDoor.L5
/-
  What makes a test of ports, of a header that there is, by their contracts. Condition: as in the texts before.
-/
namespace Go.Proofs.YthgikaklcglpiaaGreatDoor.L9
open Go.RowKit Go.Lib

theorem clone_any (s : ByteArray) (w : World) (hs : s.size ≤ 281474976710656) : Calls Tryz.prog 115 #[.string s] w fun e w' => e = .returned (.string s) ∧ Below w.heap.size w w' := by
  have HC := hide (Tryz.stringslite_Clone s w hs)
  go_enter Tryz.func115, Tryz.ntmps115
  go_wp2_with (go_at_call 169; refine HC.out.mono ?_; rintro e w1 ⟨rfl, x1⟩; have X1 := hide x1; clear x1)
  go_ret
  exact ⟨rfl, X1.out⟩
set_option maxRecDepth 100000 in
set_option maxHeartbeats 2000000 in
theorem ports_mk {V : World} {P : Nat} {x0 x1 x2 x3 x5 x6 x7 : Value} {ao : Option Addr} {cap : Nat} {L : List L5.Spn} (hP : V.heap[P]? = some (.cells #[x0, x1, x2, x3, .slice ao L.length cap, x5, x6, x7] 117 (0, 0))) (hl : L.length ≤ 4294967296) (hat : L5.SpAt V ao L) (hb : ∀ s ∈ L, L5.Bnd s) :
    Calls Tryz.prog 64 #[.pointer (some ⟨P, 0, none⟩)] V fun e w' => (∃ a : L5.AD, e = .returned (.tuple #[.agg a.cells, .bool true]) ∧ (a.nm = [] ∧ a.ns = [] ∧ a.D = [] ∧ L5.IsSet a.sp ∧ ∀ n, L5.memB n a.sp = L5.memB n L) ∧ AtF w' V.heap.size a) ∧ Below V.heap.size V w' := by
  have X0 := hide (show Below V.heap.size V (V.alloc (.cells #[.int .i64 0, .string ⟨#[]⟩, .slice none 0 0, .slice none 0 0, .slice none 0 0] 35)) from al (Below.refl _ _) _)
  have B0 := hide (heap_alloc_new V (.cells #[.int .i64 0, .string ⟨#[]⟩, .slice none 0 0, .slice none 0 0, .slice none 0 0] 35))
  have BP := hide ((X0.out.block P (lt_of_block hP)).trans hP)
  have HM := hide (L5.ofSpans_ok ao cap L _ hl (hat.below X0.out) hb)
  have HLL := hide hl
  clear hat hb hP
  obtain ⟨R, hR⟩ : ∃ R, R = V.heap.size := ⟨_, rfl⟩
  have HRW : Hid (V.heap.size ≤ R) := by unfold Hid; omega
  go_enter Tryz.func64, Tryz.ntmps64
  go_upto_region 1 with fail
  rw [← hR] at B0 ⊢
  have HRE := hide hR
  clear hR
  generalize V.alloc (.cells #[.int .i64 0, .string ⟨#[]⟩, .slice none 0 0, .slice none 0 0, .slice none 0 0] 35) = W at *
  have r4 : W.cell? ⟨P, 4, none⟩ = some (.slice ao L.length cap) := by rw [cell_of_row _ _ _ _ _ _ BP.out]; rfl
  go_wp2_with (fail)
  refine HM.out.mono ?_
  rintro e w1 ⟨⟨so, M, sc, rfl, hsp, hfr, hS, hmem, hlen⟩, x1⟩
  have B1 := hide ((x1.block R (lt_of_block B0.out)).trans B0.out)
  have HFIN : Hid (∀ U, L5.Kept (fun k => k = R) w1 U → (∃ a : L5.AD, (.returned (.tuple #[.agg #[.int .i64 0, .string ⟨#[]⟩, .slice so M.length sc, .slice none 0 0, .slice none 0 0], .bool true]) : Ending) = .returned (.tuple #[.agg a.cells, .bool true]) ∧ (a.nm = [] ∧ a.ns = [] ∧ a.D = [] ∧ L5.IsSet a.sp ∧ ∀ n, L5.memB n a.sp = L5.memB n L) ∧ AtF U V.heap.size a) ∧ Below V.heap.size V U) := fun U hk => by
    have hlt := lt_of_block B0.out
    have hsz := X0.out.size
    have hl := HLL.out
    refine ⟨⟨⟨0, [], M, so, sc, [], none, 0, [], none, 0⟩, rfl, ⟨rfl, rfl, rfl, hS, hmem⟩, ⟨⟨L5.SpAt.kept hsp hk (fun a ha f => ?_), .inl rfl, .inl rfl, ?_, by simp, by simp, fun d hd => (by cases hd), by simp, fun d hd => (by cases hd)⟩, fun a ha => ?_, fun a ha => (by cases ha), rfl⟩⟩, ?_⟩
    · have := (hfr a ha).1; omega
    · show M.length ≤ _; omega
    · have := hfr a ha; have := hk.size; omega
    · exact (bt X0.out x1 (Nat.le_refl _)).trans (hk.below (Nat.le_trans HRW.out (by have := x1.size; omega)) (fun i hi => by rw [hi]; exact HRW.out))
  clear hsp hfr hS hmem hlen x1 HM X0 B0 BP r4
  generalize M.length = lM at *
  obtain ⟨s0, s1, s2, s3, s4⟩ := L5.five_of B1.out
  have f0 := frozen_of_row w1 R 0 _ _ B1.out
  have f1 := frozen_of_row w1 R 1 _ _ B1.out
  have f2 := frozen_of_row w1 R 2 _ _ B1.out
  have f3 := frozen_of_row w1 R 3 _ _ B1.out
  have f4 := frozen_of_row w1 R 4 _ _ B1.out
  go_wp2
  refine bodyPost_ret (v := .tuple #[.agg #[.int .i64 0, .string ⟨#[]⟩, .slice so lM sc, .slice none 0 0, .slice none 0 0], .bool true]) ?_ rfl ?_
  · rw [results_cell_tmp rfl]
    go_simp
  · exact HFIN.out _ ((((((L5.Kept.refl (fun k => k = R) w1).setCell (p := ⟨R, 0, none⟩) rfl _).setCell (p := ⟨R, 1, none⟩) rfl _).setCell (p := ⟨R, 2, none⟩) rfl _).setCell (p := ⟨R, 3, none⟩) rfl _).setCell (p := ⟨R, 4, none⟩) rfl _)
set_option maxRecDepth 100000 in
set_option maxHeartbeats 2000000 in
theorem has_mk {V : World} {P : Nat} {x0 x2 x3 x4 x5 x6 x7 : Value} {nm : By} (hP : V.heap[P]? = some (.cells #[x0, .string ⟨nm.toArray⟩, x2, x3, x4, x5, x6, x7] 117 (0, 0))) (hl : nm.length ≤ 140737488351232) :
    Calls Tryz.prog 68 #[.pointer (some ⟨P, 0, none⟩)] V fun e w' => (∃ a : L5.AD, e = .returned (.tuple #[.agg a.cells, .bool true]) ∧ (a = ⟨0, nm, [], none, 0, [], none, 0, [], none, 0⟩) ∧ AtF w' V.heap.size a) ∧ Below V.heap.size V w' := by
  have X0 := hide (show Below V.heap.size V (V.alloc (.cells #[.int .i64 0, .string ⟨#[]⟩, .slice none 0 0, .slice none 0 0, .slice none 0 0] 35)) from al (Below.refl _ _) _)
  have B0 := hide (heap_alloc_new V (.cells #[.int .i64 0, .string ⟨#[]⟩, .slice none 0 0, .slice none 0 0, .slice none 0 0] 35))
  have BP := hide ((X0.out.block P (lt_of_block hP)).trans hP)
  have HM := hide (fun U => clone_any ⟨nm.toArray⟩ U (by rw [L5.size_by]; omega))
  have HLL := hide hl
  clear hP
  obtain ⟨R, hR⟩ : ∃ R, R = V.heap.size := ⟨_, rfl⟩
  have HRW : Hid (V.heap.size ≤ R) := by unfold Hid; omega
  go_enter Tryz.func68, Tryz.ntmps68
  go_upto_region 1 with fail
  rw [← hR] at B0 ⊢
  clear hR
  generalize V.alloc (.cells #[.int .i64 0, .string ⟨#[]⟩, .slice none 0 0, .slice none 0 0, .slice none 0 0] 35) = W at *
  have r4 : W.cell? ⟨P, 1, none⟩ = some (.string ⟨nm.toArray⟩) := by rw [cell_of_row _ _ _ _ _ _ BP.out]; rfl
  go_wp2_with (fail)
  refine (HM.out _).mono ?_
  rintro e w1 ⟨rfl, x1⟩
  have B1 := hide ((x1.block R (lt_of_block B0.out)).trans B0.out)
  have HFIN : Hid (∀ U, L5.Kept (fun k => k = R) w1 U → (∃ a : L5.AD, (.returned (.tuple #[.agg #[.int .i64 0, .string ⟨nm.toArray⟩, .slice none 0 0, .slice none 0 0, .slice none 0 0], .bool true]) : Ending) = .returned (.tuple #[.agg a.cells, .bool true]) ∧ (a = ⟨0, nm, [], none, 0, [], none, 0, [], none, 0⟩) ∧ AtF U V.heap.size a) ∧ Below V.heap.size V U) := fun U hk => by
    have hsz := X0.out.size
    have hlt := lt_of_block B0.out
    refine ⟨⟨⟨0, nm, [], none, 0, [], none, 0, [], none, 0⟩, rfl, rfl, ⟨⟨.inl rfl, .inl rfl, .inl rfl, by simp, by simp, by simp, fun d hd => (by cases hd), HLL.out, fun d hd => (by cases hd)⟩, fun a ha => (by cases ha), fun a ha => (by cases ha), rfl⟩⟩, ?_⟩
    exact (bt X0.out x1 (Nat.le_refl _)).trans (hk.below (Nat.le_trans HRW.out (by have := x1.size; omega)) (fun i hi => by rw [hi]; exact HRW.out))
  clear x1 HM X0 B0 BP r4
  obtain ⟨s0, s1, s2, s3, s4⟩ := L5.five_of B1.out
  have f0 := frozen_of_row w1 R 0 _ _ B1.out
  have f1 := frozen_of_row w1 R 1 _ _ B1.out
  have f2 := frozen_of_row w1 R 2 _ _ B1.out
  have f3 := frozen_of_row w1 R 3 _ _ B1.out
  have f4 := frozen_of_row w1 R 4 _ _ B1.out
  go_wp2
  refine bodyPost_ret (v := .tuple #[.agg #[.int .i64 0, .string ⟨nm.toArray⟩, .slice none 0 0, .slice none 0 0, .slice none 0 0], .bool true]) ?_ rfl ?_
  · rw [results_cell_tmp rfl]
    go_simp
  · exact HFIN.out _ ((((((L5.Kept.refl (fun k => k = R) w1).setCell (p := ⟨R, 0, none⟩) rfl _).setCell (p := ⟨R, 1, none⟩) rfl _).setCell (p := ⟨R, 2, none⟩) rfl _).setCell (p := ⟨R, 3, none⟩) rfl _).setCell (p := ⟨R, 4, none⟩) rfl _)
end Go.Proofs.YthgikaklcglpiaaGreatDoor.L9
