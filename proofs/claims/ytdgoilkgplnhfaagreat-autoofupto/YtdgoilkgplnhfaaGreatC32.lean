/-
  The reader's set by its contract. Condition: a text has at most 2^32 bytes.
-/
import Derived.Test.YtdgoilkgplnhfaaGreatC18
import Derived.Test.YtdgoilkgplnhfaaGreatC21
set_option maxRecDepth 100000
set_option maxHeartbeats 16000000
namespace Go.Proofs.YtdgoilkgplnhfaaGreat
open Go.RowKit Go.Lib
theorem app_kept {w w' : World} {v v' : Value} (h : AppAt w w' v v') : ∃ F : Nat → Prop, Kept F w w' ∧ (∀ k, F k → v.ownBlock = some k) := by
 rcases h with ⟨g, a, b, c⟩ | ⟨a, b⟩
 · exact ⟨fun k => some g = some k, kept_of_grown c, fun k hk => a.trans hk⟩
 · exact ⟨fun _ => False, Kept.of_below (below_of_grown a), fun k hk => hk.elim⟩
def PcIs (rb : Nat) (s : By) (base : Nat) (x : Except By (Pc × By)) (e : Ending) (w' : World) : Prop := match x with
 | .ok (p, t) => (∃ so sc, e = .returned (.tuple #[.agg #[.int .i64 p.kind, .int .i64 p.b, .bool p.no, .slice so p.set.length sc], .bool true]) ∧ OwnS w' base (.slice so p.set.length sc) p.set) ∧ RdS w' rb s t
 | .error t => (∃ k : Int, e = .returned (.tuple #[.agg #[.int .i64 k, .int .i64 0, .bool false, .slice none 0 0], .bool false])) ∧ RdS w' rb s t
theorem PcIs.mkOk {rb : Nat} {s : By} {base : Nat} {x : Except By (Pc × By)} {p : Pc} {t : By} {e : Ending} {w' : World} (hx : x = .ok (p, t)) (so : Option Addr) (sc : Nat) (he : e = .returned (.tuple #[.agg #[.int .i64 p.kind, .int .i64 p.b, .bool p.no, .slice so p.set.length sc], .bool true])) (ho : OwnS w' base (.slice so p.set.length sc) p.set) (hr : RdS w' rb s t) : PcIs rb s base x e w' := by
 subst hx
 exact ⟨⟨so, sc, he, ho⟩, hr⟩
theorem PcIs.mkErr {rb : Nat} {s : By} {base : Nat} {x : Except By (Pc × By)} {t : By} {e : Ending} {w' : World} (hx : x = .error t) (k : Int) (he : e = .returned (.tuple #[.agg #[.int .i64 k, .int .i64 0, .bool false, .slice none 0 0], .bool false])) (hr : RdS w' rb s t) : PcIs rb s base x e w' := by
 subst hx
 exact ⟨⟨k, he⟩, hr⟩
theorem PcIs.ok {rb : Nat} {s : By} {base : Nat} {x : Except By (Pc × By)} {p : Pc} {t : By} {e : Ending} {w' : World} (h : PcIs rb s base x e w') (hx : x = .ok (p, t)) : (∃ so sc, e = .returned (.tuple #[.agg #[.int .i64 p.kind, .int .i64 p.b, .bool p.no, .slice so p.set.length sc], .bool true]) ∧ OwnS w' base (.slice so p.set.length sc) p.set) ∧ RdS w' rb s t := by subst hx; exact h
theorem PcIs.err {rb : Nat} {s : By} {base : Nat} {x : Except By (Pc × By)} {t : By} {e : Ending} {w' : World} (h : PcIs rb s base x e w') (hx : x = .error t) : (∃ k : Int, e = .returned (.tuple #[.agg #[.int .i64 k, .int .i64 0, .bool false, .slice none 0 0], .bool false])) ∧ RdS w' rb s t := by subst hx; exact h
theorem ItIs.ok {rb : Nat} {s t : By} {x : Except By (Spn × By)} {p : Spn} {e : Ending} {w' : World} (h : ItIs rb s x e w') (hx : x = .ok (p, t)) : e = .returned (.tuple #[.agg #[.int .i64 p.1, .int .i64 p.2], .bool true]) ∧ RdS w' rb s t := by subst hx; exact h
theorem ItIs.err {rb : Nat} {s t : By} {x : Except By (Spn × By)} {e : Ending} {w' : World} (h : ItIs rb s x e w') (hx : x = .error t) : (∃ a b : Int, e = .returned (.tuple #[.agg #[.int .i64 a, .int .i64 b], .bool false])) ∧ RdS w' rb s t := by subst hx; exact h
structure StS (rb : Nat) (s r1 : By) (w0 : World) (v : Value) (A : List Spn) (r : By) (n : Nat) (wr : World) : Prop where
 own : OwnS wr w0.heap.size v A
 rd : RdS wr rb s r
 fuel : itsL n r A = itsL (r1.length + 1) r1 []
 lt : r.length < n
 len : A.length + r.length ≤ r1.length
 in' : ∀ s ∈ A, 32 ≤ s.1 ∧ s.1 ≤ s.2 ∧ s.2 ≤ 126
 res : wr.heap[w0.heap.size]? = some (.cells #[.int .i64 0, .int .i64 0, .bool false, .slice none 0 0] 96 (0, 0))
 kept : Kept (fun k => k = rb) w0 wr
 rbl : rb < w0.heap.size
theorem bnd_of {s : Spn} (h : 32 ≤ s.1 ∧ s.1 ≤ s.2 ∧ s.2 ≤ 126) : Bnd s := by
 unfold Bnd
 omega
def slen : Value → Nat
 | .slice _ n _ => n
 | _ => 0
theorem cells4 {W : World} {g : Nat} {x y z u : Value} {T : TypeId} (B : W.heap[g]? = some (.cells #[x, y, z, u] T (0, 0))) : W.cell? ⟨g, 0, none⟩ = some x ∧ W.cell? ⟨g, 1, none⟩ = some y ∧ W.cell? ⟨g, 2, none⟩ = some z ∧ W.cell? ⟨g, 3, none⟩ = some u := by
 refine ⟨?_, ?_, ?_, ?_⟩ <;> (rw [cell_of_row _ _ _ _ _ _ B]; rfl)
section
variable {rb : Nat} {s r1 : By} {w0 : World} {v : Value} {A : List Spn} {r : By} {n : Nat} {wr : World}
theorem StS.skip {w3 : World} (h : StS rb s r1 w0 v A r n wr) (r3 : RdS w3 rb s r) (k3 : Kept (fun k => k = rb) wr w3) : StS rb s r1 w0 v A r n w3 :=
 ⟨h.own.kept k3 (fun k hk hk2 => by have := (h.own.lt k hk).1; have := h.rbl; omega), r3, h.fuel, h.lt, h.len, h.in', (k3.block _ (lt_of_block h.res) (by have := h.rbl; omega)).trans h.res, h.kept.trans k3, h.rbl⟩
def More (A : List Spn) (r : By) : Prop := (!A.isEmpty && [93].isPrefixOf r) = false
theorem its_more {n : Nat} (h : More A r) : itsL (n + 1) r A = match itL r with
 | .error t => .error t
 | .ok (s, t) => itsL n t (A ++ [s]) := by
 conv => lhs; unfold itsL
 rw [if_neg (by rw [h]; decide)]
 cases itL r <;> rfl
theorem StS.succ (h : StS rb s r1 w0 v A r n wr) : ∃ m, n = m + 1 := ⟨n - 1, by have := h.lt; omega⟩
theorem StS.err (h : StS rb s r1 w0 v A r n wr) (hm : More A r) {t : By} (hi : itL r = .error t) : itsL (r1.length + 1) r1 [] = .error t := by
 obtain ⟨m, rfl⟩ := h.succ
 rw [← h.fuel, its_more hm, hi]
theorem StS.end' (h : StS rb s r1 w0 v A r n wr) (hm : (!A.isEmpty && [93].isPrefixOf r) = true) : itsL (r1.length + 1) r1 [] = .ok (A, r.drop 1) := by
 obtain ⟨m, rfl⟩ := h.succ
 rw [← h.fuel]
 unfold itsL
 rw [if_pos hm]
theorem StS.next (h : StS rb s r1 w0 v A r n wr) (hm : More A r) {sp : Spn} {t : By} (hi : itL r = .ok (sp, t)) {w4 wq : World} {v' : Value} (r4 : RdS w4 rb s t) (k4 : Kept (fun k => k = rb) wr w4)
 (h1 : wq.ownsRow w0.heap.size 175 2 v' (A.length + 1) (spCells A ++ [.int .i64 sp.1, .int .i64 sp.2])) (h2 : AppAt ((w4.alloc (.cells #[.int .i64 sp.1, .int .i64 sp.2] 175)).alloc (.cells #[.int .i64 sp.1, .int .i64 sp.2] 175)) wq v v') : StS rb s r1 w0 v' (A ++ [sp]) t (n - 1) wq := by
 obtain ⟨m, rfl⟩ := h.succ
 obtain ⟨a1, a2, a3, a4, a5⟩ := itL_ok hi
 have X5 : Below w4.heap.size w4 ((w4.alloc (.cells #[.int .i64 sp.1, .int .i64 sp.2] 175)).alloc (.cells #[.int .i64 sp.1, .int .i64 sp.2] 175)) := al (al (Below.refl _ _) _) _
 obtain ⟨F, hk, hF⟩ := app_kept h2
 have hne : w0.heap.size ≠ rb := by have := h.rbl; omega
 have o4 : OwnS w4 w0.heap.size v A := h.own.kept k4 (fun k hk hk2 => by have := (h.own.lt k hk).1; have := h.rbl; omega)
 have b4 := (k4.block _ (lt_of_block h.res) hne).trans h.res
 have b5 := (X5.block _ (lt_of_block b4)).trans b4
 have hF2 : ∀ k, F k → w0.heap.size ≤ k ∧ k ≠ w0.heap.size := fun k hf => by
  have hv := hF k hf
  refine ⟨(o4.lt k hv).1, fun hk => ?_⟩
  subst hk
  obtain ⟨cs, h5⟩ := own_ty o4 _ hv
  rw [b4] at h5
  simp at h5
 refine ⟨?_, (r4.below X5).kept hk (fun hf => by have := (hF2 _ hf).1; have := h.rbl; omega), ?_, ?_, ?_, ?_, ?_, ?_, h.rbl⟩
 · unfold OwnS
   rw [spCells_snoc, List.length_append]
   exact h1
 · rw [← h.fuel, its_more hm, hi]
   rfl
 · have := h.lt
   simp only [Nat.add_sub_cancel]
   omega
 · have := h.len
   rw [List.length_append, List.length_singleton]
   omega
 · intro x hx
   rcases List.mem_append.1 hx with hx | hx
   · exact h.in' x hx
   · rw [List.mem_singleton.1 hx]; exact ⟨a3, a4, a5⟩
 · exact (hk.block _ (lt_of_block b5) (fun hf => (hF2 _ hf).2 rfl)).trans b5
 · exact Kept.trans_new (h.kept.trans (k4.trans (Kept.of_below X5))) hk (fun i hi hf => by have := (hF2 i hf).1; omega)
end
theorem set_s (rb : Nat) (s r : By) (w : World) (hl : s.length ≤ 4294967296) (h : RdS w rb s r) :
 Calls Tryz.prog 92 #[.pointer (some ⟨rb, 0, none⟩)] w fun e w' => PcIs rb s w.heap.size (stL r) e w' ∧ Kept (fun k => k = rb) w w' := by
 obtain ⟨i59, hj, hy0, hy1, hy2⟩ := Tryz.info175'
 have X0 := hide (al (Below.refl w.heap.size w) (.cells #[.int .i64 0, .int .i64 0, .bool false, .slice none 0 0] 96))
 have B0 := hide (heap_alloc_new w (.cells #[.int .i64 0, .int .i64 0, .bool false, .slice none 0 0] 96))
 have H1 := hide (skip_s rb s [33] r (w.alloc (.cells #[.int .i64 0, .int .i64 0, .bool false, .slice none 0 0] 96)) (by omega) (by decide) (h.below X0.out))
 have HRL := hide h.lt
 have HRB : Hid (w.heap.size ≠ rb) := by have := h.lt; unfold Hid; omega
 have HKF := hide (fun (W W' : World) (h : Kept (fun k => k = rb) w W) (h' : Kept (fun k => k = w.heap.size) W W') => (Kept.trans_new h h' (fun i hi hg => by rw [hg] at hi; exact absurd hi (Nat.lt_irrefl _)) : Kept (fun k => k = rb) w W'))
 obtain ⟨no, hno⟩ : ∃ no, Hid (no = [33].isPrefixOf r) := ⟨_, rfl⟩
 obtain ⟨r1, hr1⟩ : ∃ r1, Hid (r1 = if no = true then r.drop 1 else r) := ⟨_, rfl⟩
 rw [show List.length [(33 : UInt8)] = 1 from rfl, ← hno.out, ← hr1.out] at H1
 have HSE : Hid (∀ t, itsL (r1.length + 1) r1 [] = .error t → stL r = .error t) := fun t ht => by
  unfold stL
  simp only
  rw [← hno.out, ← hr1.out, ht]
 have HSO : Hid (∀ A t, itsL (r1.length + 1) r1 [] = .ok (A, t) → stL r = .ok (⟨3, 0, no, setOf A⟩, t)) := fun A t ht => by
  unfold stL
  simp only
  rw [← hno.out, ← hr1.out, ht]
 clear h hno hr1
 go_enter Tryz.func92, Tryz.ntmps92
 go_wp2_with (fail)
 refine H1.out.mono ?_
 rintro e w2 ⟨rfl, r2, k2⟩
 have HR1 := hide r2.len
 have S2 : Hid (StS rb s r1 w (.slice none 0 0) [] r1 (r1.length + 1) w2) := ⟨OwnS.nil _ _, r2, rfl, by omega, by simp, fun x hx => (by cases hx), (k2.block _ (lt_of_block B0.out) HRB.out).trans B0.out, (Kept.of_below X0.out).trans k2, HRL.out⟩
 clear r2 k2 H1
 go_wp2
 go_loopw [5] (fun it wr => ∃ A r' n, Hid (StS rb s r1 w it A r' n wr)) (fun it _ => s.length - slen it)
 case atStart => exact ⟨_, _, _, S2⟩
 case round =>
  obtain ⟨A, r', n, S⟩ := hrel
  rename World => wr
  obtain ⟨ao, cap, rfl, _⟩ := own_shape S.out.own
  have HAL0 : Hid (A.length ≤ s.length) := by have := S.out.len; have := HR1.out; unfold Hid; omega
  by_cases h0 : A.length = 0
  · obtain rfl := List.eq_nil_of_length_eq_zero h0
    have HA : More [] r' := rfl
    have HIT := hide (item_s rb s r' wr (by omega) S.out.rd)
    simp only [List.length_nil] at HAL0 ⊢
    clear h0
    go_wp2_with (fail)
    refine HIT.out.mono ?_
    rintro e w4 ⟨h4, k4⟩
    have B4 := hide ((k4.block _ (lt_of_block S.out.res) HRB.out).trans S.out.res)
    have O4 := hide (S.out.own.kept k4 (fun k hk hk2 => by have := (S.out.own.lt k hk).1; have := S.out.rbl; omega))
    have K4 := hide (S.out.kept.trans k4)
    cases hi : itL r' with
    | error t =>
      obtain ⟨⟨a, b', rfl⟩, r4⟩ := h4.err hi
      have HE := hide (S.out.err HA hi)
      have X5 : Below w4.heap.size w4 (w4.alloc (.cells #[.int .i64 a, .int .i64 b'] 175)) := al (Below.refl _ _) _
      have B5 := hide ((X5.block _ (lt_of_block B4.out)).trans B4.out)
      have R5 := r4.below X5
      have K5 := hide (K4.out.trans (Kept.of_below X5))
      obtain ⟨c0, f0, c1, f1, c2, f2, c3, f3, B6, k6⟩ := st4 B5.out (.int .i64 0) (.int .i64 0) (.bool false) (.slice none 0 0)
      obtain ⟨d0, d1, d2, d3⟩ := cells4 B6
      have R6 := hide (R5.kept k6 (fun h => HRB.out h.symm))
      have K6 := hide (HKF.out _ _ K5.out k6)
      clear h4 k4 r4 X5 R5 B6 k6 hi
      go_wp2
      refine bodyPost_ret (by simp [results, Tryz.results92, go_sem, d0, d1, d2, d3]; try rfl) rfl ?_
      exact ⟨PcIs.mkErr (HSE.out _ HE.out) 0 rfl R6.out, K6.out⟩
    | ok x =>
      obtain ⟨sp, t⟩ := x
      obtain ⟨rfl, r4⟩ := h4.ok hi
      have HNX := hide (fun wq v' (h1 : wq.ownsRow w.heap.size 175 2 v' (0 + 1) (spCells ([] : List Spn) ++ [.int .i64 sp.1, .int .i64 sp.2])) (h2 : AppAt ((w4.alloc (.cells #[.int .i64 sp.1, .int .i64 sp.2] 175)).alloc (.cells #[.int .i64 sp.1, .int .i64 sp.2] 175)) wq (.slice ao 0 cap) v') => S.out.next HA hi r4 k4 h1 h2)
      have X5 : Below w4.heap.size w4 ((w4.alloc (.cells #[.int .i64 sp.1, .int .i64 sp.2] 175)).alloc (.cells #[.int .i64 sp.1, .int .i64 sp.2] 175)) := al (al (Below.refl _ _) _) _
      have O5 : Hid (((w4.alloc (.cells #[.int .i64 sp.1, .int .i64 sp.2] 175)).alloc (.cells #[.int .i64 sp.1, .int .i64 sp.2] 175)).ownsRow w.heap.size 175 2 (.slice ao 0 cap) 0 (spCells ([] : List Spn))) := own_below O4.out X5
      have HN := hide (new_cells (w4.alloc (.cells #[.int .i64 sp.1, .int .i64 sp.2] 175)) sp (w4.heap.size + 1) (by simp))
      have HB5 : Hid (w.heap.size ≤ ((w4.alloc (.cells #[.int .i64 sp.1, .int .i64 sp.2] 175)).alloc (.cells #[.int .i64 sp.1, .int .i64 sp.2] 175)).heap.size) := Nat.le_trans K4.out.size X5.size
      clear h4 k4 r4 X5 hi
      go_wp2_with (at_builtin; refine wpList_append_view rfl (.tmp 28) (.tmp 30) 94 rfl w.heap.size 175 i59 (.agg #[.int .i64 0, .int .i64 0]) 2 16 Tryz.underlying94 hj hy0 hy1 hy2 rfl (by decide) _ 0 (spCells ([] : List Spn)) rfl O5.out ⟨w4.heap.size + 1, 0, none⟩ 1 1 [.int .i64 sp.1, .int .i64 sp.2] rfl rfl HN.out (by simp [Value.oneCell']) (by decide) (by have := HAL0.out; unfold maxLen; omega) (by have := HAL0.out; omega) HB5.out ?_; intro v6 w6 h1 h2; have S6 := hide (HNX.out _ _ h1 h2); obtain ⟨a6, c6, rfl, _⟩ := own_shape h1; clear h1 h2)
      go_roundw
      case rel => exact ⟨_, _, _, S6⟩
      case measure =>
       have hS := S6.out.len
       have hR := HR1.out
       rw [List.length_append, List.length_singleton] at hS
       simp only [slen]
       omega
  · have h0' : ¬ ((A.length : Nat) : Int) = 0 := by omega
    have hne : ¬ A = [] := fun h => h0 (by rw [h]; rfl)
    have H3 := hide (skip_s rb s [93] r' wr (by omega) (by decide) S.out.rd)
    have HNE : Hid ((!A.isEmpty) = true) := by
     cases A with
     | nil => exact absurd rfl h0
     | cons x A => rfl
    cases hb : [93].isPrefixOf r' with
    | false =>
      have HA : More A r' := by unfold More; rw [hb, Bool.and_false]
      rw [hb, if_neg (by decide)] at H3
      clear hb h0
      go_wp2_with (fail)
      refine H3.out.mono ?_
      rintro e w3 ⟨rfl, r3, k3⟩
      have S' : Hid (StS rb s r1 w (.slice ao A.length cap) A r' n w3) := S.out.skip r3 k3
      have S0 := S
      clear S
      have S := S'
      have HIT := hide (item_s rb s r' w3 (by omega) S.out.rd)
      clear r3 k3 H3 S' S0
      go_wp2_with (fail)
      refine HIT.out.mono ?_
      rintro e w4 ⟨h4, k4⟩
      have B4 := hide ((k4.block _ (lt_of_block S.out.res) HRB.out).trans S.out.res)
      have O4 := hide (S.out.own.kept k4 (fun k hk hk2 => by have := (S.out.own.lt k hk).1; have := S.out.rbl; omega))
      have K4 := hide (S.out.kept.trans k4)
      cases hi : itL r' with
      | error t =>
        obtain ⟨⟨a, b', rfl⟩, r4⟩ := h4.err hi
        have HE := hide (S.out.err HA hi)
        have X5 : Below w4.heap.size w4 (w4.alloc (.cells #[.int .i64 a, .int .i64 b'] 175)) := al (Below.refl _ _) _
        have B5 := hide ((X5.block _ (lt_of_block B4.out)).trans B4.out)
        have R5 := r4.below X5
        have K5 := hide (K4.out.trans (Kept.of_below X5))
        obtain ⟨c0, f0, c1, f1, c2, f2, c3, f3, B6, k6⟩ := st4 B5.out (.int .i64 0) (.int .i64 0) (.bool false) (.slice none 0 0)
        obtain ⟨d0, d1, d2, d3⟩ := cells4 B6
        have R6 := hide (R5.kept k6 (fun h => HRB.out h.symm))
        have K6 := hide (HKF.out _ _ K5.out k6)
        clear h4 k4 r4 X5 R5 B6 k6 hi
        go_wp2
        refine bodyPost_ret (by simp [results, Tryz.results92, go_sem, d0, d1, d2, d3]; try rfl) rfl ?_
        exact ⟨PcIs.mkErr (HSE.out _ HE.out) 0 rfl R6.out, K6.out⟩
      | ok x =>
        obtain ⟨sp, t⟩ := x
        obtain ⟨rfl, r4⟩ := h4.ok hi
        have HNX := hide (fun wq v' (h1 : wq.ownsRow w.heap.size 175 2 v' (A.length + 1) (spCells A ++ [.int .i64 sp.1, .int .i64 sp.2])) (h2 : AppAt ((w4.alloc (.cells #[.int .i64 sp.1, .int .i64 sp.2] 175)).alloc (.cells #[.int .i64 sp.1, .int .i64 sp.2] 175)) wq (.slice ao A.length cap) v') => S.out.next HA hi r4 k4 h1 h2)
        have X5 : Below w4.heap.size w4 ((w4.alloc (.cells #[.int .i64 sp.1, .int .i64 sp.2] 175)).alloc (.cells #[.int .i64 sp.1, .int .i64 sp.2] 175)) := al (al (Below.refl _ _) _) _
        have O5 : Hid (((w4.alloc (.cells #[.int .i64 sp.1, .int .i64 sp.2] 175)).alloc (.cells #[.int .i64 sp.1, .int .i64 sp.2] 175)).ownsRow w.heap.size 175 2 (.slice ao A.length cap) A.length (spCells A)) := own_below O4.out X5
        have HN := hide (new_cells (w4.alloc (.cells #[.int .i64 sp.1, .int .i64 sp.2] 175)) sp (w4.heap.size + 1) (by simp))
        have HB5 : Hid (w.heap.size ≤ ((w4.alloc (.cells #[.int .i64 sp.1, .int .i64 sp.2] 175)).alloc (.cells #[.int .i64 sp.1, .int .i64 sp.2] 175)).heap.size) := Nat.le_trans K4.out.size X5.size
        clear h4 k4 r4 X5 hi
        go_wp2_with (at_builtin; refine wpList_append_view rfl (.tmp 28) (.tmp 30) 94 rfl w.heap.size 175 i59 (.agg #[.int .i64 0, .int .i64 0]) 2 16 Tryz.underlying94 hj hy0 hy1 hy2 rfl (by decide) _ A.length (spCells A) rfl O5.out ⟨w4.heap.size + 1, 0, none⟩ 1 1 [.int .i64 sp.1, .int .i64 sp.2] rfl rfl HN.out (by simp [Value.oneCell']) (by decide) (by have := HAL0.out; unfold maxLen; omega) (by have := HAL0.out; omega) HB5.out ?_; intro v6 w6 h1 h2; have S6 := hide (HNX.out _ _ h1 h2); obtain ⟨a6, c6, rfl, _⟩ := own_shape h1; clear h1 h2)
        go_roundw
        case rel => exact ⟨_, _, _, S6⟩
        case measure =>
         have hS := S6.out.len
         have hR := HR1.out
         rw [List.length_append, List.length_singleton] at hS
         simp only [slen]
         omega
    | true =>
      have HEN := hide (S.out.end' (by rw [hb, HNE.out]; rfl))
      rw [hb, if_pos rfl] at H3
      clear hb h0
      go_wp2_with (fail)
      refine H3.out.mono ?_
      rintro e w3 ⟨rfl, r3, k3⟩
      have B3 := hide ((k3.block _ (lt_of_block S.out.res) HRB.out).trans S.out.res)
      have o3 := S.out.own.kept k3 (fun k hk hk2 => by have := (S.out.own.lt k hk).1; have := S.out.rbl; omega)
      have K3 := hide (S.out.kept.trans k3)
      have R3 := hide r3
      have HIN := hide S.out.in'
      obtain ⟨_, _, e3, a3, _⟩ := o3.shape
      injection e3 with e3 _ e4
      subst e3 e4
      have HMK := hide (make_any ao cap A w3 (by have := HAL0.out; omega) a3)
      clear r3 k3 H3 o3 a3 S
      go_wp2_with (fail)
      refine HMK.out.mono ?_
      rintro e w4 ⟨x4, h4⟩
      rcases h4 with ⟨_, v4, M, rfl, o4, hs, hm, _⟩ | ⟨h4, _⟩
      · obtain ⟨a4, c4, rfl, _⟩ := own_shape o4
        have HMS : Hid (setOf A = M) := setOf_eq (fun x hx => bnd_of (HIN.out x hx)) hs hm
        have B4 := hide ((x4.block _ (lt_of_block B3.out)).trans B3.out)
        have R4 := R3.out.below x4
        have K4 := hide (K3.out.trans (Kept.of_below x4))
        obtain ⟨c0, f0, c1, f1, c2, f2, c3, f3, B5, k5⟩ := st4 B4.out (.int .i64 3) (.int .i64 0) (.bool no) (.slice a4 M.length c4)
        obtain ⟨d0, d1, d2, d3⟩ := cells4 B5
        have O5 := hide ((OwnS.mono o4 K3.out.size).kept k5 (fun k hk hk2 => by
         subst hk2
         obtain ⟨cs, h5⟩ := own_ty o4 _ hk
         rw [B4.out] at h5
         simp at h5))
        have R5 := hide (R4.kept k5 (fun h => HRB.out h.symm))
        have K5 := hide (HKF.out _ _ K4.out k5)
        clear x4 o4 hs hm R4 B5 k5 HMK
        go_wp2
        refine bodyPost_ret (by simp [results, Tryz.results92, go_sem, d0, d1, d2, d3]; try rfl) rfl ?_
        refine ⟨PcIs.mkOk (HSO.out _ _ HEN.out) a4 c4 ?_ ?_ R5.out, K5.out⟩
        · simp only [HMS.out]
        · simp only [HMS.out]
          exact O5.out
      · exact absurd (fun x hx => bnd_of (HIN.out x hx)) h4
structure PcS (rb : Nat) (s : By) (w : World) (r : By) (W : World) : Prop where
 rd : RdS W rb s r
 res : W.heap[w.heap.size]? = some (.cells #[.int .i64 0, .int .i64 0, .bool false, .slice none 0 0] 96 (0, 0))
 kept : Kept (fun k => k = rb) w W
 rbl : rb < w.heap.size
section
variable {rb : Nat} {s r t : By} {w W W' : World}
theorem PcS.skip (h : PcS rb s w r W) (r3 : RdS W' rb s t) (k3 : Kept (fun k => k = rb) W W') : PcS rb s w t W' :=
 ⟨r3, (k3.block _ (lt_of_block h.res) (by have := h.rbl; omega)).trans h.res, h.kept.trans k3, h.rbl⟩
theorem PcS.st (h : PcS rb s w r W) (x y z u : Value) :
 (W.cell? ⟨w.heap.size, 0, none⟩ = some (.int .i64 0) ∧ W.frozen? ⟨w.heap.size, 0, none⟩ = false ∧ (W.setCell ⟨w.heap.size, 0, none⟩ x).cell? ⟨w.heap.size, 1, none⟩ = some (.int .i64 0) ∧ (W.setCell ⟨w.heap.size, 0, none⟩ x).frozen? ⟨w.heap.size, 1, none⟩ = false ∧
 ((W.setCell ⟨w.heap.size, 0, none⟩ x).setCell ⟨w.heap.size, 1, none⟩ y).cell? ⟨w.heap.size, 2, none⟩ = some (.bool false) ∧ ((W.setCell ⟨w.heap.size, 0, none⟩ x).setCell ⟨w.heap.size, 1, none⟩ y).frozen? ⟨w.heap.size, 2, none⟩ = false ∧
 (((W.setCell ⟨w.heap.size, 0, none⟩ x).setCell ⟨w.heap.size, 1, none⟩ y).setCell ⟨w.heap.size, 2, none⟩ z).cell? ⟨w.heap.size, 3, none⟩ = some (.slice none 0 0) ∧ (((W.setCell ⟨w.heap.size, 0, none⟩ x).setCell ⟨w.heap.size, 1, none⟩ y).setCell ⟨w.heap.size, 2, none⟩ z).frozen? ⟨w.heap.size, 3, none⟩ = false) ∧
 (((((W.setCell ⟨w.heap.size, 0, none⟩ x).setCell ⟨w.heap.size, 1, none⟩ y).setCell ⟨w.heap.size, 2, none⟩ z).setCell ⟨w.heap.size, 3, none⟩ u).cell? ⟨w.heap.size, 0, none⟩ = some x ∧ ((((W.setCell ⟨w.heap.size, 0, none⟩ x).setCell ⟨w.heap.size, 1, none⟩ y).setCell ⟨w.heap.size, 2, none⟩ z).setCell ⟨w.heap.size, 3, none⟩ u).cell? ⟨w.heap.size, 1, none⟩ = some y ∧
  ((((W.setCell ⟨w.heap.size, 0, none⟩ x).setCell ⟨w.heap.size, 1, none⟩ y).setCell ⟨w.heap.size, 2, none⟩ z).setCell ⟨w.heap.size, 3, none⟩ u).cell? ⟨w.heap.size, 2, none⟩ = some z ∧ ((((W.setCell ⟨w.heap.size, 0, none⟩ x).setCell ⟨w.heap.size, 1, none⟩ y).setCell ⟨w.heap.size, 2, none⟩ z).setCell ⟨w.heap.size, 3, none⟩ u).cell? ⟨w.heap.size, 3, none⟩ = some u) ∧
 RdS ((((W.setCell ⟨w.heap.size, 0, none⟩ x).setCell ⟨w.heap.size, 1, none⟩ y).setCell ⟨w.heap.size, 2, none⟩ z).setCell ⟨w.heap.size, 3, none⟩ u) rb s r ∧ Kept (fun k => k = rb) w ((((W.setCell ⟨w.heap.size, 0, none⟩ x).setCell ⟨w.heap.size, 1, none⟩ y).setCell ⟨w.heap.size, 2, none⟩ z).setCell ⟨w.heap.size, 3, none⟩ u) ∧ Kept (fun k => k = w.heap.size) W ((((W.setCell ⟨w.heap.size, 0, none⟩ x).setCell ⟨w.heap.size, 1, none⟩ y).setCell ⟨w.heap.size, 2, none⟩ z).setCell ⟨w.heap.size, 3, none⟩ u) := by
 obtain ⟨c0, f0, c1, f1, c2, f2, c3, f3, B6, k6⟩ := st4 h.res x y z u
 refine ⟨⟨c0, f0, c1, f1, c2, f2, c3, f3⟩, cells4 B6, h.rd.kept k6 (by have := h.rbl; omega), Kept.trans_new h.kept k6 (fun i hi hg => by rw [hg] at hi; exact absurd hi (Nat.lt_irrefl _)), k6⟩
end
theorem piece_s (rb : Nat) (s r : By) (w : World) (hl : s.length ≤ 4294967296) (h : RdS w rb s r) :
 Calls Tryz.prog 53 #[.pointer (some ⟨rb, 0, none⟩)] w fun e w' => PcIs rb s w.heap.size (pcL r) e w' ∧ Kept (fun k => k = rb) w w' := by
 have hX0 := al (Below.refl w.heap.size w) (.cells #[.int .i64 0, .int .i64 0, .bool false, .slice none 0 0] 96)
 have S : Hid (PcS rb s w r (w.alloc (.cells #[.int .i64 0, .int .i64 0, .bool false, .slice none 0 0] 96))) := ⟨h.below hX0, heap_alloc_new _ _, Kept.of_below hX0, h.lt⟩
 have HSK := hide (fun (q r' : By) (W : World) (hq : q.length ≤ 8) (h : RdS W rb s r') => skip_s rb s q r' W (by omega) hq h)
 clear h hX0
 cases hb0 : [42, 42].isPrefixOf r with
 | true =>
   have HE : Hid (pcL r = .ok (⟨5, 0, false, []⟩, r.drop 2)) := by unfold Hid pcL; rw [if_pos hb0]
   go_enter Tryz.func53, Tryz.ntmps53
   have H1 := hide (HSK.out [42, 42] r _ (by decide) S.out.rd)
   rw [hb0, if_pos rfl] at H1
   go_wp2_with (fail)
   refine H1.out.mono ?_
   rintro e wt ⟨rfl, rf, kf⟩
   have S' := hide (S.out.skip rf kf)
   clear S rf kf H1
   have S := S'
   clear S'
   clear HSK hb0
   obtain ⟨⟨c0, f0, c1, f1, c2, f2, c3, f3⟩, ⟨d0, d1, d2, d3⟩, r5, k5, _⟩ := S.out.st (.int .i64 5) (.int .i64 0) (.bool false) (.slice none 0 0)
   have R5 := hide r5
   have K5 := hide k5
   clear r5 k5
   go_wp2
   refine bodyPost_ret (by simp [results, Tryz.results53, go_sem, d0, d1, d2, d3]; try rfl) rfl ?_
   exact ⟨PcIs.mkOk HE.out none 0 rfl (OwnS.nil _ _) R5.out, K5.out⟩
 | false =>
   cases hb1 : [42].isPrefixOf r with
   | true =>
     have HE : Hid (pcL r = .ok (⟨4, 0, false, []⟩, r.drop 1)) := by unfold Hid pcL; rw [if_neg (by rw [hb0]; decide)]; rw [if_pos hb1]
     go_enter Tryz.func53, Tryz.ntmps53
     have H1 := hide (HSK.out [42, 42] r _ (by decide) S.out.rd)
     rw [hb0, if_neg (by decide)] at H1
     go_wp2_with (fail)
     refine H1.out.mono ?_
     rintro e wfhb0 ⟨rfl, rf, kf⟩
     have S' := hide (S.out.skip rf kf)
     clear S rf kf H1
     have S := S'
     clear S'
     have H1 := hide (HSK.out [42] r _ (by decide) S.out.rd)
     rw [hb1, if_pos rfl] at H1
     go_wp2_with (fail)
     refine H1.out.mono ?_
     rintro e wt ⟨rfl, rf, kf⟩
     have S' := hide (S.out.skip rf kf)
     clear S rf kf H1
     have S := S'
     clear S'
     clear HSK hb0 hb1
     obtain ⟨⟨c0, f0, c1, f1, c2, f2, c3, f3⟩, ⟨d0, d1, d2, d3⟩, r5, k5, _⟩ := S.out.st (.int .i64 4) (.int .i64 0) (.bool false) (.slice none 0 0)
     have R5 := hide r5
     have K5 := hide k5
     clear r5 k5
     go_wp2
     refine bodyPost_ret (by simp [results, Tryz.results53, go_sem, d0, d1, d2, d3]; try rfl) rfl ?_
     exact ⟨PcIs.mkOk HE.out none 0 rfl (OwnS.nil _ _) R5.out, K5.out⟩
   | false =>
     cases hb2 : [63].isPrefixOf r with
     | true =>
       have HE : Hid (pcL r = .ok (⟨2, 0, false, []⟩, r.drop 1)) := by unfold Hid pcL; rw [if_neg (by rw [hb0]; decide)]; rw [if_neg (by rw [hb1]; decide)]; rw [if_pos hb2]
       go_enter Tryz.func53, Tryz.ntmps53
       have H1 := hide (HSK.out [42, 42] r _ (by decide) S.out.rd)
       rw [hb0, if_neg (by decide)] at H1
       go_wp2_with (fail)
       refine H1.out.mono ?_
       rintro e wfhb0 ⟨rfl, rf, kf⟩
       have S' := hide (S.out.skip rf kf)
       clear S rf kf H1
       have S := S'
       clear S'
       have H1 := hide (HSK.out [42] r _ (by decide) S.out.rd)
       rw [hb1, if_neg (by decide)] at H1
       go_wp2_with (fail)
       refine H1.out.mono ?_
       rintro e wfhb1 ⟨rfl, rf, kf⟩
       have S' := hide (S.out.skip rf kf)
       clear S rf kf H1
       have S := S'
       clear S'
       have H1 := hide (HSK.out [63] r _ (by decide) S.out.rd)
       rw [hb2, if_pos rfl] at H1
       go_wp2_with (fail)
       refine H1.out.mono ?_
       rintro e wt ⟨rfl, rf, kf⟩
       have S' := hide (S.out.skip rf kf)
       clear S rf kf H1
       have S := S'
       clear S'
       clear HSK hb0 hb1 hb2
       obtain ⟨⟨c0, f0, c1, f1, c2, f2, c3, f3⟩, ⟨d0, d1, d2, d3⟩, r5, k5, _⟩ := S.out.st (.int .i64 2) (.int .i64 0) (.bool false) (.slice none 0 0)
       have R5 := hide r5
       have K5 := hide k5
       clear r5 k5
       go_wp2
       refine bodyPost_ret (by simp [results, Tryz.results53, go_sem, d0, d1, d2, d3]; try rfl) rfl ?_
       exact ⟨PcIs.mkOk HE.out none 0 rfl (OwnS.nil _ _) R5.out, K5.out⟩
     | false =>
       cases hb3 : [91].isPrefixOf r with
       | true =>
         have HE : Hid (pcL r = stL (r.drop 1)) := by unfold Hid pcL; rw [if_neg (by rw [hb0]; decide)]; rw [if_neg (by rw [hb1]; decide)]; rw [if_neg (by rw [hb2]; decide)]; rw [if_pos hb3]
         go_enter Tryz.func53, Tryz.ntmps53
         have H1 := hide (HSK.out [42, 42] r _ (by decide) S.out.rd)
         rw [hb0, if_neg (by decide)] at H1
         go_wp2_with (fail)
         refine H1.out.mono ?_
         rintro e wfhb0 ⟨rfl, rf, kf⟩
         have S' := hide (S.out.skip rf kf)
         clear S rf kf H1
         have S := S'
         clear S'
         have H1 := hide (HSK.out [42] r _ (by decide) S.out.rd)
         rw [hb1, if_neg (by decide)] at H1
         go_wp2_with (fail)
         refine H1.out.mono ?_
         rintro e wfhb1 ⟨rfl, rf, kf⟩
         have S' := hide (S.out.skip rf kf)
         clear S rf kf H1
         have S := S'
         clear S'
         have H1 := hide (HSK.out [63] r _ (by decide) S.out.rd)
         rw [hb2, if_neg (by decide)] at H1
         go_wp2_with (fail)
         refine H1.out.mono ?_
         rintro e wfhb2 ⟨rfl, rf, kf⟩
         have S' := hide (S.out.skip rf kf)
         clear S rf kf H1
         have S := S'
         clear S'
         have H1 := hide (HSK.out [91] r _ (by decide) S.out.rd)
         rw [hb3, if_pos rfl] at H1
         go_wp2_with (fail)
         refine H1.out.mono ?_
         rintro e wt ⟨rfl, rf, kf⟩
         have S' := hide (S.out.skip rf kf)
         clear S rf kf H1
         have S := S'
         clear S'
         clear HSK hb0 hb1 hb2 hb3
         have H2 := hide (set_s rb s _ _ hl S.out.rd)
         go_wp2_with (fail)
         refine H2.out.mono ?_
         rintro e w5 ⟨h5, k5⟩
         have HBS := hide (lt_of_block S.out.res)
         rw [show List.length [(91 : UInt8)] = 1 from rfl, ← HE.out] at h5
         cases hx : pcL r with
         | error t =>
           obtain ⟨⟨k, rfl⟩, r5⟩ := h5.err hx
           have S' := hide (S.out.skip r5 k5)
           clear S h5 r5 k5 H2
           have S := S'
           clear S'
           obtain ⟨⟨c0, f0, c1, f1, c2, f2, c3, f3⟩, ⟨d0, d1, d2, d3⟩, r5, k5, _⟩ := S.out.st (.int .i64 k) (.int .i64 0) (.bool false) (.slice none 0 0)
           have R5 := hide r5
           have K5 := hide k5
           clear r5 k5
           go_wp2
           refine bodyPost_ret (by simp [results, Tryz.results53, go_sem, d0, d1, d2, d3]; try rfl) rfl ?_
           exact ⟨PcIs.mkErr hx k rfl R5.out, K5.out⟩
         | ok x =>
           obtain ⟨p, t⟩ := x
           obtain ⟨⟨so, sc, rfl, o5⟩, r5⟩ := h5.ok hx
           have HBW := hide S.out.kept.size
           have S' := hide (S.out.skip r5 k5)
           have O5 := hide o5
           clear S h5 r5 k5 H2 o5
           have S := S'
           clear S'
           obtain ⟨⟨c0, f0, c1, f1, c2, f2, c3, f3⟩, ⟨d0, d1, d2, d3⟩, r5, k5, k6⟩ := S.out.st (.int .i64 p.kind) (.int .i64 p.b) (.bool p.no) (.slice so p.set.length sc)
           have R5 := hide r5
           have K5 := hide k5
           have O6 := hide ((OwnS.mono O5.out HBW.out).kept k6 (fun k hk hk2 => by have := (O5.out.lt k hk).1; have := HBS.out; omega))
           clear r5 k5 k6
           go_wp2
           refine bodyPost_ret (by simp [results, Tryz.results53, go_sem, d0, d1, d2, d3]; try rfl) rfl ?_
           exact ⟨PcIs.mkOk hx so sc rfl O6.out R5.out, K5.out⟩
       | false =>
         cases hb4 : [92].isPrefixOf r with
         | true =>
           have HE : Hid (pcL r = match tkL 32 (r.drop 1) with
            | .error t => .error t
            | .ok (c, t) => .ok (⟨1, ((c.toNat : Nat) : Int), false, []⟩, t)) := by unfold Hid pcL; rw [if_neg (by rw [hb0]; decide)]; rw [if_neg (by rw [hb1]; decide)]; rw [if_neg (by rw [hb2]; decide)]; rw [if_neg (by rw [hb3]; decide)]; rw [if_pos hb4]; cases tkL 32 (r.drop 1) <;> rfl
           go_enter Tryz.func53, Tryz.ntmps53
           have H1 := hide (HSK.out [42, 42] r _ (by decide) S.out.rd)
           rw [hb0, if_neg (by decide)] at H1
           go_wp2_with (fail)
           refine H1.out.mono ?_
           rintro e wfhb0 ⟨rfl, rf, kf⟩
           have S' := hide (S.out.skip rf kf)
           clear S rf kf H1
           have S := S'
           clear S'
           have H1 := hide (HSK.out [42] r _ (by decide) S.out.rd)
           rw [hb1, if_neg (by decide)] at H1
           go_wp2_with (fail)
           refine H1.out.mono ?_
           rintro e wfhb1 ⟨rfl, rf, kf⟩
           have S' := hide (S.out.skip rf kf)
           clear S rf kf H1
           have S := S'
           clear S'
           have H1 := hide (HSK.out [63] r _ (by decide) S.out.rd)
           rw [hb2, if_neg (by decide)] at H1
           go_wp2_with (fail)
           refine H1.out.mono ?_
           rintro e wfhb2 ⟨rfl, rf, kf⟩
           have S' := hide (S.out.skip rf kf)
           clear S rf kf H1
           have S := S'
           clear S'
           have H1 := hide (HSK.out [91] r _ (by decide) S.out.rd)
           rw [hb3, if_neg (by decide)] at H1
           go_wp2_with (fail)
           refine H1.out.mono ?_
           rintro e wfhb3 ⟨rfl, rf, kf⟩
           have S' := hide (S.out.skip rf kf)
           clear S rf kf H1
           have S := S'
           clear S'
           have H1 := hide (HSK.out [92] r _ (by decide) S.out.rd)
           rw [hb4, if_pos rfl] at H1
           go_wp2_with (fail)
           refine H1.out.mono ?_
           rintro e wt ⟨rfl, rf, kf⟩
           have S' := hide (S.out.skip rf kf)
           clear S rf kf H1
           have S := S'
           clear S'
           clear HSK hb0 hb1 hb2 hb3 hb4
           have H2 := hide (take_s rb s _ 32 _ (by omega) S.out.rd)
           go_wp2_with (fail)
           refine H2.out.mono ?_
           rintro e w5 ⟨h5, k5⟩
           cases hx : tkL 32 (r.drop 1) with
           | error t =>
             obtain ⟨rfl, r5⟩ := h5.err hx
             rw [hx] at HE
             have S' := hide (S.out.skip r5 k5)
             clear S h5 r5 k5 H2 hx
             have S := S'
             clear S'
             obtain ⟨⟨c0, f0, c1, f1, c2, f2, c3, f3⟩, ⟨d0, d1, d2, d3⟩, r5, k5, _⟩ := S.out.st (.int .i64 1) (.int .i64 0) (.bool false) (.slice none 0 0)
             have R5 := hide r5
             have K5 := hide k5
             clear r5 k5
             go_wp2
             refine bodyPost_ret (by simp [results, Tryz.results53, go_sem, d0, d1, d2, d3]; try rfl) rfl ?_
             exact ⟨PcIs.mkErr HE.out 1 rfl R5.out, K5.out⟩
           | ok x =>
             obtain ⟨c, t⟩ := x
             obtain ⟨rfl, r5⟩ := h5.ok hx
             rw [hx] at HE
             have S' := hide (S.out.skip r5 k5)
             clear S h5 r5 k5 H2 hx
             have S := S'
             clear S'
             obtain ⟨⟨c0, f0, c1, f1, c2, f2, c3, f3⟩, ⟨d0, d1, d2, d3⟩, r5, k5, _⟩ := S.out.st (.int .i64 1) (.int .i64 (c.toNat : Nat)) (.bool false) (.slice none 0 0)
             have R5 := hide r5
             have K5 := hide k5
             clear r5 k5
             go_wp2
             refine bodyPost_ret (by simp [results, Tryz.results53, go_sem, d0, d1, d2, d3]; try rfl) rfl ?_
             exact ⟨PcIs.mkOk HE.out none 0 rfl (OwnS.nil _ _) R5.out, K5.out⟩
         | false =>
           have HE : Hid (pcL r = match tkL 32 r with
            | .error t => .error t
            | .ok (c, t) => .ok (⟨1, ((c.toNat : Nat) : Int), false, []⟩, t)) := by unfold Hid pcL; rw [if_neg (by rw [hb0]; decide)]; rw [if_neg (by rw [hb1]; decide)]; rw [if_neg (by rw [hb2]; decide)]; rw [if_neg (by rw [hb3]; decide)]; rw [if_neg (by rw [hb4]; decide)]; cases tkL 32 r <;> rfl
           go_enter Tryz.func53, Tryz.ntmps53
           have H1 := hide (HSK.out [42, 42] r _ (by decide) S.out.rd)
           rw [hb0, if_neg (by decide)] at H1
           go_wp2_with (fail)
           refine H1.out.mono ?_
           rintro e wfhb0 ⟨rfl, rf, kf⟩
           have S' := hide (S.out.skip rf kf)
           clear S rf kf H1
           have S := S'
           clear S'
           have H1 := hide (HSK.out [42] r _ (by decide) S.out.rd)
           rw [hb1, if_neg (by decide)] at H1
           go_wp2_with (fail)
           refine H1.out.mono ?_
           rintro e wfhb1 ⟨rfl, rf, kf⟩
           have S' := hide (S.out.skip rf kf)
           clear S rf kf H1
           have S := S'
           clear S'
           have H1 := hide (HSK.out [63] r _ (by decide) S.out.rd)
           rw [hb2, if_neg (by decide)] at H1
           go_wp2_with (fail)
           refine H1.out.mono ?_
           rintro e wfhb2 ⟨rfl, rf, kf⟩
           have S' := hide (S.out.skip rf kf)
           clear S rf kf H1
           have S := S'
           clear S'
           have H1 := hide (HSK.out [91] r _ (by decide) S.out.rd)
           rw [hb3, if_neg (by decide)] at H1
           go_wp2_with (fail)
           refine H1.out.mono ?_
           rintro e wfhb3 ⟨rfl, rf, kf⟩
           have S' := hide (S.out.skip rf kf)
           clear S rf kf H1
           have S := S'
           clear S'
           have H1 := hide (HSK.out [92] r _ (by decide) S.out.rd)
           rw [hb4, if_neg (by decide)] at H1
           go_wp2_with (fail)
           refine H1.out.mono ?_
           rintro e wfhb4 ⟨rfl, rf, kf⟩
           have S' := hide (S.out.skip rf kf)
           clear S rf kf H1
           have S := S'
           clear S'
           clear HSK hb0 hb1 hb2 hb3 hb4
           have H2 := hide (take_s rb s _ 32 _ (by omega) S.out.rd)
           go_wp2_with (fail)
           refine H2.out.mono ?_
           rintro e w5 ⟨h5, k5⟩
           cases hx : tkL 32 r with
           | error t =>
             obtain ⟨rfl, r5⟩ := h5.err hx
             rw [hx] at HE
             have S' := hide (S.out.skip r5 k5)
             clear S h5 r5 k5 H2 hx
             have S := S'
             clear S'
             obtain ⟨⟨c0, f0, c1, f1, c2, f2, c3, f3⟩, ⟨d0, d1, d2, d3⟩, r5, k5, _⟩ := S.out.st (.int .i64 1) (.int .i64 0) (.bool false) (.slice none 0 0)
             have R5 := hide r5
             have K5 := hide k5
             clear r5 k5
             go_wp2
             refine bodyPost_ret (by simp [results, Tryz.results53, go_sem, d0, d1, d2, d3]; try rfl) rfl ?_
             exact ⟨PcIs.mkErr HE.out 1 rfl R5.out, K5.out⟩
           | ok x =>
             obtain ⟨c, t⟩ := x
             obtain ⟨rfl, r5⟩ := h5.ok hx
             rw [hx] at HE
             have S' := hide (S.out.skip r5 k5)
             clear S h5 r5 k5 H2 hx
             have S := S'
             clear S'
             obtain ⟨⟨c0, f0, c1, f1, c2, f2, c3, f3⟩, ⟨d0, d1, d2, d3⟩, r5, k5, _⟩ := S.out.st (.int .i64 1) (.int .i64 (c.toNat : Nat)) (.bool false) (.slice none 0 0)
             have R5 := hide r5
             have K5 := hide k5
             clear r5 k5
             go_wp2
             refine bodyPost_ret (by simp [results, Tryz.results53, go_sem, d0, d1, d2, d3]; try rfl) rfl ?_
             exact ⟨PcIs.mkOk HE.out none 0 rfl (OwnS.nil _ _) R5.out, K5.out⟩
end Go.Proofs.YtdgoilkgplnhfaaGreat
