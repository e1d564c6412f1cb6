/-
  The writer's test of true, false and port, where it goes well. Condition: the numbers are 1, 9, 80.
-/
import Derived.Test.YtlmhofjiobmodaaGreatDoorQ10
import Derived.Laws.StructEq
namespace Go.Proofs.YtlmhofjiobmodaaGreatDoor
open Go.RowKit Go.Lib

theorem prC_get (L : List (Int × Int)) (i : Nat) (hi : i < L.length) : (prC L)[i * 2]? = some (.int .i64 L[i].1) ∧ (prC L)[i * 2 + 1]? = some (.int .i64 L[i].2) := by
  induction L generalizing i with
  | nil => simp at hi
  | cons x L ih =>
    have e : prC (x :: L) = .int .i64 x.1 :: .int .i64 x.2 :: prC L := rfl
    rw [e]
    cases i with
    | zero => exact ⟨rfl, rfl⟩
    | succ i =>
      obtain ⟨h1, h2⟩ := ih i (by simpa using hi)
      rw [show (i + 1) * 2 = i * 2 + 1 + 1 by omega]
      exact ⟨h1, h2⟩
/-- What the function that writes a span sees. -/
def InvS (b0 wp b1 b2 : Nat) (vs : Array Value) (v4 : Value) (sp : List (Int × Int)) (W : World) : Prop := W.heap[b1]? = some (.cells #[.pointer (some ⟨wp, 0, none⟩)] 138 (0, 0)) ∧ W.heap[b2]? = some (.cells vs 60 (0, 0)) ∧ W.ownsRow b0 68 2 v4 sp.length (prC sp)
theorem InvS.kpo {b0 wp b1 b2 base : Nat} {vs : Array Value} {v4 : Value} {sp : List (Int × Int)} {a b : World} {s : By} {pt : Bool} (hw : WrA a base wp s pt) (k : KpO 5 base wp a b) (h : InvS b0 wp b1 b2 vs v4 sp a) : InvS b0 wp b1 b2 vs v4 sp b :=
  ⟨k.box h.1 (by decide) (hw.ne h.1 (by decide)), k.box h.2.1 (by decide) (hw.ne h.2.1 (by decide)), k.ownS h.2.2 (by decide) hw⟩
set_option maxRecDepth 100000 in
set_option maxHeartbeats 2000000 in
theorem part_ok {W : World} {base wp b0 b1 b2 : Nat} {x0 x1 x2 x3 x5 x6 x7 v4 : Value} {sp : List (Int × Int)} {i : Nat} {s x : WS} (hi : i < sp.length) (hl : sp.length ≤ 32) (h : WrA W base wp s.1 s.2) (hI : InvS b0 wp b1 b2 #[x0, x1, x2, x3, v4, x5, x6, x7] v4 sp W) (hd : ∀ z ∈ sp, Dg3 z.1 ∧ Dg3 z.2) (hx : spnW (sp.getD i (0, 0)) s = some x) :
    Calls Tryz.prog 170 #[.int .i64 (i : Nat), .pointer (some ⟨b1, 0, none⟩), .pointer (some ⟨b2, 0, none⟩)] W (PostW base wp W x) := by
  obtain ⟨h1, h2, h3⟩ := hI
  have hz : sp.getD i (0, 0) = sp[i] := by rw [List.getD_eq_getElem?_getD, List.getElem?_eq_getElem hi]; rfl
  rw [hz] at hx
  obtain ⟨g1, g2⟩ := hd _ (List.getElem_mem hi)
  obtain ⟨a4, c4, hv, hav⟩ := own_shape h3
  obtain ⟨g, hg⟩ := hav (by omega)
  subst hg
  subst hv
  have hlt : (i : Int) < (sp.length : Int) := by omega
  obtain ⟨p1, p2⟩ := prC_get sp i hi
  have c1 : W.cell? ⟨g, i * 2, none⟩ = some (.int .i64 sp[i].1) := by rw [World.ownsRow.cellAt h3 (i * 2) (by omega)]; exact p1
  have c2 : W.cell? ⟨g, i * 2 + 1, none⟩ = some (.int .i64 sp[i].2) := by rw [World.ownsRow.cellAt h3 (i * 2 + 1) (by omega)]; exact p2
  have c3 : W.cell? ⟨b1, 0, none⟩ = some (.pointer (some ⟨wp, 0, none⟩)) := by rw [cell_of_row _ _ _ _ _ _ h1]; rfl
  have c4' : W.cell? ⟨b2, 4, none⟩ = some (.slice (some ⟨g, 0, none⟩) sp.length c4) := by rw [cell_of_row _ _ _ _ _ _ h2]; rfl
  have HP := hide (fun (z : Int × Int) (e : z = sp[i]) (V : World) (y : Below W.heap.size W V) => ports_ok (z := z) (x := x) (by rw [e]; exact g1) (by rw [e]; exact g2) (h.below y) (by rw [e]; exact hx))
  obtain ⟨z, hzz⟩ : ∃ z, z = sp[i] := ⟨_, rfl⟩
  rw [← hzz] at c1 c2
  have HZ := hide hzz
  have HPP := hide (HP.out z hzz)
  have HS0 : Hid ((W.drew.cell? ⟨g, i * 2, none⟩ = some (.int .i64 z.1) ∧ W.drew.cell? ⟨g, i * 2 + 1, none⟩ = some (.int .i64 z.2) ∧ W.drew.cell? ⟨b1, 0, none⟩ = some (.pointer (some ⟨wp, 0, none⟩)) ∧ W.drew.cell? ⟨b2, 4, none⟩ = some (.slice (some ⟨g, 0, none⟩) sp.length c4))) := ⟨c1, c2, c3, c4'⟩
  clear h1 h2 h3 hz hx g1 g2 hav p1 p2 c1 c2 c3 c4' h HP hzz HZ hd hi
  have XD : Hid (Below W.heap.size W W.drew) := (Below.refl _ _).drew
  generalize sp.length = n at *
  go_enter Tryz.func170, Tryz.ntmps170
  refine wp_unt (S := fun V => V.cell? ⟨g, i * 2, none⟩ = some (.int .i64 z.1) ∧ V.cell? ⟨g, i * 2 + 1, none⟩ = some (.int .i64 z.2) ∧ V.cell? ⟨b1, 0, none⟩ = some (.pointer (some ⟨wp, 0, none⟩)) ∧ V.cell? ⟨b2, 4, none⟩ = some (.slice (some ⟨g, 0, none⟩) n c4)) 6 (by kernel_rfl) ?_
  refine UntH.take (i := 0) (some 4) rfl rfl (by kernel_rfl) (by kernel_rfl) (by kernel_rfl) (by kernel_rfl) (fun _ _ _ _ h => h) (by rfl) HS0.out ?_
  apply Exists.intro
  refine ⟨fun w' hw' => ?_, ?_⟩
  · obtain ⟨q1, q2, q3, q4⟩ := hw'
    go_simp
    first | done | rfl
  try simp only [Act.put, List.setIfInBounds_toArray, List.set_cons_zero, List.set_cons_succ]
  refine UntH.take (i := 1) (some 5) rfl rfl (by kernel_rfl) (by kernel_rfl) (by kernel_rfl) (by kernel_rfl) (fun _ _ _ _ h => h) (by rfl) HS0.out ?_
  apply Exists.intro
  refine ⟨fun w' hw' => ?_, ?_⟩
  · obtain ⟨q1, q2, q3, q4⟩ := hw'
    go_simp
    first | done | rfl
  try simp only [Act.put, List.setIfInBounds_toArray, List.set_cons_zero, List.set_cons_succ]
  refine UntH.take (i := 2) (some 6) rfl rfl (by kernel_rfl) (by kernel_rfl) (by kernel_rfl) (by kernel_rfl) (fun _ _ _ _ h => h) (by rfl) HS0.out ?_
  apply Exists.intro
  refine ⟨fun w' hw' => ?_, ?_⟩
  · obtain ⟨q1, q2, q3, q4⟩ := hw'
    go_simp
    first | done | rfl
  try simp only [Act.put, List.setIfInBounds_toArray, List.set_cons_zero, List.set_cons_succ]
  refine UntH.take (i := 3) (some 7) rfl rfl (by kernel_rfl) (by kernel_rfl) (by kernel_rfl) (by kernel_rfl) (fun _ _ _ _ h => h) (by rfl) HS0.out ?_
  apply Exists.intro
  refine ⟨fun w' hw' => ?_, ?_⟩
  · obtain ⟨q1, q2, q3, q4⟩ := hw'
    go_simp
    first | done | rfl
  try simp only [Act.put, List.setIfInBounds_toArray, List.set_cons_zero, List.set_cons_succ]
  refine UntH.take (i := 4) (some 8) rfl rfl (by kernel_rfl) (by kernel_rfl) (by kernel_rfl) (by kernel_rfl) (fun _ _ _ _ h => h) (by rfl) HS0.out ?_
  apply Exists.intro
  refine ⟨fun w' hw' => ?_, ?_⟩
  · obtain ⟨q1, q2, q3, q4⟩ := hw'
    go_simp
    first | done | rfl
  try simp only [Act.put, List.setIfInBounds_toArray, List.set_cons_zero, List.set_cons_succ]
  refine UntH.take (i := 5) (some 9) rfl rfl (by kernel_rfl) (by kernel_rfl) (by kernel_rfl) (by kernel_rfl) (fun _ _ _ _ h => h) (by rfl) HS0.out ?_
  apply Exists.intro
  refine ⟨fun w' hw' => ?_, ?_⟩
  · obtain ⟨q1, q2, q3, q4⟩ := hw'
    go_simp
    first | done | rfl
  try simp only [Act.put, List.setIfInBounds_toArray, List.set_cons_zero, List.set_cons_succ]
  refine UntH.last (by kernel_rfl) rfl (by kernel_rfl) (by kernel_rfl) (fun K hK => ?_)
  go_simp
  refine (HPP.out _ XD.out).mono ?_
  rintro e w3 ⟨rfl, r3, x3⟩
  refine hK _ _ ?_
  have R3 := hide r3
  have X3 := hide x3
  clear hK K r3 x3
  go_wp2
  go_end0
  exact ⟨rfl, R3.out, (KpO.of_below XD.out).trans X3.out⟩
theorem enters170 : ∀ (args : Array Value) (w : World), (callFunc 170 args).run Tryz.prog w = .ok (.enter 170 args) w := fun _ _ => by kernel_rfl
/-- What a test is written as. -/
def tstW (c : CT) (s : WS) : Option WS := if c.k = 1 then wrdW wTrue s else if c.k = 2 then wrdW wFalse s else if c.k = 8 then (wrdW wPort s).bind fun a => lstW (fun i => spnW (c.sp.getD i (0, 0))) c.sp.length a else none
set_option maxRecDepth 100000 in
set_option maxHeartbeats 4000000 in
theorem test_ok {w : World} {base wp b0 : Nat} {c : CT} {vs : List Value} {bs : List Nat} {s x : WS} (h : WrA w base wp s.1 s.2) (hc : CtAt w b0 c vs bs) (hd : ∀ z ∈ c.sp, Dg3 z.1 ∧ Dg3 z.2) (hx : tstW c s = some x) :
    Calls Tryz.prog 141 #[.pointer (some ⟨wp, 0, none⟩), .agg vs.toArray] w (PostW base wp w x) := by
  have hmf : ∀ (fn : Fn) (first cap : Array Value) (w : World), (Instr.makeFunc fn first cap).run Tryz.prog w = .ok (.func fn first cap) w := fun _ _ _ _ => rfl
  have hspr : ∀ v0 v1 v2 v3 v4 v5 v6 v7, vs = [v0, v1, v2, v3, v4, v5, v6, v7] → w.ownsRow b0 68 2 v4 c.sp.length (prC c.sp) := fun v0 v1 v2 v3 v4 v5 v6 v7 e => by
    subst e
    cases c with
    | mk k nm tx pre sp ns kids p =>
      unfold CtAt at hc
      obtain ⟨u3, u4, u5, u6, cs, ks, h1, h2, h3, _⟩ := hc
      injection h1 with _ h1
      injection h1 with _ h1
      injection h1 with _ h1
      injection h1 with _ h1
      injection h1 with h1 _
      rw [h1]
      exact h3
  obtain ⟨a3, c3, a4, c4, a5, c5, a6, c6, rfl⟩ := hc.eight
  have hsr := hspr _ _ _ _ _ _ _ _ rfl
  clear hspr hc
  obtain ⟨W, hW⟩ : ∃ W, W = (w.alloc (.cells #[.pointer (some ⟨wp, 0, none⟩)] 138)).alloc (.cells #[.int .i64 c.k, .string ⟨c.nm.toArray⟩, .string ⟨c.tx.toArray⟩, .slice a3 c.pre.length c3, .slice a4 c.sp.length c4, .slice a5 c.ns.length c5, .slice a6 c.kids.length c6, .int .i64 c.p] 60) := ⟨_, rfl⟩
  obtain ⟨b1, hb1⟩ : ∃ b, b = w.heap.size := ⟨_, rfl⟩
  obtain ⟨b2, hb2⟩ : ∃ b, b = w.heap.size + 1 := ⟨_, rfl⟩
  have XW := hide (show Below w.heap.size w W by rw [hW]; exact al (al (Below.refl _ _) _) _)
  have B1 := hide (show W.heap[b1]? = some (.cells #[.pointer (some ⟨wp, 0, none⟩)] 138 (0, 0)) by
    rw [hW, hb1]
    exact (heap_alloc_old _ _ (by simp)).trans (heap_alloc_new w _))
  have B2 := hide (show W.heap[b2]? = some (.cells #[.int .i64 c.k, .string ⟨c.nm.toArray⟩, .string ⟨c.tx.toArray⟩, .slice a3 c.pre.length c3, .slice a4 c.sp.length c4, .slice a5 c.ns.length c5, .slice a6 c.kids.length c6, .int .i64 c.p] 60 (0, 0)) by
    rw [hW, hb2, show w.heap.size + 1 = (w.alloc (.cells #[.pointer (some ⟨wp, 0, none⟩)] 138)).heap.size by simp]
    exact heap_alloc_new _ _)
  have RW := hide (h.below XW.out)
  have HI : Hid (InvS b0 wp b1 b2 #[.int .i64 c.k, .string ⟨c.nm.toArray⟩, .string ⟨c.tx.toArray⟩, .slice a3 c.pre.length c3, .slice a4 c.sp.length c4, .slice a5 c.ns.length c5, .slice a6 c.kids.length c6, .int .i64 c.p] (.slice a4 c.sp.length c4) c.sp W) := ⟨B1.out, B2.out, own_below hsr XW.out⟩
  have HM := hide must_ok
  clear hsr h
  have HD := hide hd
  clear hd
  generalize c.nm = cnm at *
  generalize c.tx = ctx at *
  generalize c.p = cp at *
  generalize c.pre.length = npre at *
  generalize c.ns.length = nns at *
  generalize c.kids.length = nkids at *
  have KX : Hid (c.k = 1 ∧ wrdW wTrue s = some x ∨ c.k = 2 ∧ wrdW wFalse s = some x ∨ c.k = 8 ∧ (wrdW wPort s).bind (fun a => lstW (fun i => spnW (c.sp.getD i (0, 0))) c.sp.length a) = some x) := by
    unfold Hid
    unfold tstW at hx
    by_cases h1 : c.k = 1
    · rw [if_pos h1] at hx; exact .inl ⟨h1, hx⟩
    · rw [if_neg h1] at hx
      by_cases h2 : c.k = 2
      · rw [if_pos h2] at hx; exact .inr (.inl ⟨h2, hx⟩)
      · rw [if_neg h2] at hx
        by_cases h8 : c.k = 8
        · rw [if_pos h8] at hx; exact .inr (.inr ⟨h8, hx⟩)
        · rw [if_neg h8] at hx; cases hx
  clear hx
  generalize c.k = ck at *
  generalize c.sp = sp at *
  have hlen0 : ∀ (k : Nat) (r : By), tWord k = r → (1 ≤ k ∧ k ≤ 12) → ∀ V, Calls Tryz.prog 166 #[.int .i64 (k : Nat)] V fun e w' => e = .returned (.string ⟨r.toArray⟩) ∧ w' = V := fun k r e h V => e ▸ tWord_any k h.1 h.2 V
  rcases KX.out with ⟨rfl, hx⟩ | ⟨rfl, hx⟩ | ⟨rfl, hx⟩
  · have HT := hide (hlen0 1 wTrue rfl (by decide))
    have HW := hide (word_ok RW.out hx)
    unfold wTrue at HT HW
    have d0 : W.cell? ⟨b2, 0, none⟩ = some (.int .i64 1) := by rw [cell_of_row _ _ _ _ _ _ B2.out]; rfl
    have d1 : W.cell? ⟨b1, 0, none⟩ = some (.pointer (some ⟨wp, 0, none⟩)) := by rw [cell_of_row _ _ _ _ _ _ B1.out]; rfl
    clear hlen0 KX hx
    go_enter Tryz.func141, Tryz.ntmps141
    go_upto_region 1 with fail
    rw [← hb2, ← hW, ← hb1]
    clear hW hb1 hb2
    go_upto_region 4 with (first | (go_at_call 166; refine (HT.out _).mono ?_; rintro e w1 ⟨rfl, hw⟩; have hw2 := hw.symm; clear hw; subst hw2) | (go_at_call 65; refine (HM.out _).mono ?_; rintro e w2 ⟨rfl, hw⟩; have hw2 := hw.symm; clear hw; subst hw2) | (go_at_call 103; refine HW.out.mono ?_; rintro e w3 ⟨rfl, r3, x3⟩; have R3 := hide r3; have X3 := hide x3; clear r3 x3))
    have B3 := hide (X3.out.box B2.out (by decide) (RW.out.ne B2.out (by decide)))
    have e0 : w3.cell? ⟨b2, 0, none⟩ = some (.int .i64 1) := by rw [cell_of_row _ _ _ _ _ _ B3.out]; rfl
    clear d0 d1 HT HW
    go_wp2
    go_end0
    exact ⟨rfl, R3.out, (KpO.of_below XW.out).trans X3.out⟩
  · have HT := hide (hlen0 2 wFalse rfl (by decide))
    have HW := hide (word_ok RW.out hx)
    unfold wFalse at HT HW
    have d0 : W.cell? ⟨b2, 0, none⟩ = some (.int .i64 2) := by rw [cell_of_row _ _ _ _ _ _ B2.out]; rfl
    have d1 : W.cell? ⟨b1, 0, none⟩ = some (.pointer (some ⟨wp, 0, none⟩)) := by rw [cell_of_row _ _ _ _ _ _ B1.out]; rfl
    clear hlen0 KX hx
    go_enter Tryz.func141, Tryz.ntmps141
    go_upto_region 1 with fail
    rw [← hb2, ← hW, ← hb1]
    clear hW hb1 hb2
    go_upto_region 4 with (first | (go_at_call 166; refine (HT.out _).mono ?_; rintro e w1 ⟨rfl, hw⟩; have hw2 := hw.symm; clear hw; subst hw2) | (go_at_call 65; refine (HM.out _).mono ?_; rintro e w2 ⟨rfl, hw⟩; have hw2 := hw.symm; clear hw; subst hw2) | (go_at_call 103; refine HW.out.mono ?_; rintro e w3 ⟨rfl, r3, x3⟩; have R3 := hide r3; have X3 := hide x3; clear r3 x3))
    have B3 := hide (X3.out.box B2.out (by decide) (RW.out.ne B2.out (by decide)))
    have e0 : w3.cell? ⟨b2, 0, none⟩ = some (.int .i64 2) := by rw [cell_of_row _ _ _ _ _ _ B3.out]; rfl
    clear d0 d1 HT HW
    go_wp2
    go_end0
    exact ⟨rfl, R3.out, (KpO.of_below XW.out).trans X3.out⟩
  · obtain ⟨a, ha, hx⟩ := Option.bind_eq_some_iff.1 hx
    have HT := hide (hlen0 8 wPort rfl (by decide))
    have HW := hide (word_ok RW.out ha)
    unfold wPort at HT HW
    have HLW : Hid (∀ V, WrA V base wp a.1 a.2 → InvS b0 wp b1 b2 #[.int .i64 8, .string ⟨cnm.toArray⟩, .string ⟨ctx.toArray⟩, .slice a3 npre c3, .slice a4 sp.length c4, .slice a5 nns c5, .slice a6 nkids c6, .int .i64 cp] (.slice a4 sp.length c4) sp V → Calls Tryz.prog 167 #[.pointer (some ⟨wp, 0, none⟩), .int .i64 (sp.length : Nat), .func (.func 170) #[] #[.pointer (some ⟨b1, 0, none⟩), .pointer (some ⟨b2, 0, none⟩)]] V (PostW base wp V x)) := fun V r iv => by
      have hl : sp.length ≤ 32 := by
        unfold lstW at hx
        exact (Decidable.byContradiction (p := 1 ≤ sp.length ∧ sp.length ≤ 32) fun h => by rw [if_neg h] at hx; cases hx).2
      exact wlist_ok (caps := [.pointer (some ⟨b1, 0, none⟩), .pointer (some ⟨b2, 0, none⟩)]) (InvS b0 wp b1 b2 _ _ sp) (fun _ _ _ _ h1 h2 h3 => h3.kpo h1 h2) enters170 (fun W' s' x' i hi q1 q2 q3 => part_ok hi hl q1 q2 HD.out q3) r iv hx
    have d0 : W.cell? ⟨b2, 0, none⟩ = some (.int .i64 8) := by rw [cell_of_row _ _ _ _ _ _ B2.out]; rfl
    have d1 : W.cell? ⟨b1, 0, none⟩ = some (.pointer (some ⟨wp, 0, none⟩)) := by rw [cell_of_row _ _ _ _ _ _ B1.out]; rfl
    clear hlen0 KX hx ha
    go_enter Tryz.func141, Tryz.ntmps141
    go_upto_region 1 with fail
    rw [← hb2, ← hW, ← hb1]
    clear hW hb1 hb2
    go_upto_region 4 with (first | (go_at_call 166; refine (HT.out _).mono ?_; rintro e w1 ⟨rfl, hw⟩; have hw2 := hw.symm; clear hw; subst hw2) | (go_at_call 65; refine (HM.out _).mono ?_; rintro e w2 ⟨rfl, hw⟩; have hw2 := hw.symm; clear hw; subst hw2) | (go_at_call 103; refine HW.out.mono ?_; rintro e w3 ⟨rfl, r3, x3⟩; have R3 := hide r3; have X3 := hide x3; clear r3 x3))
    have I3 := hide (InvS.kpo RW.out X3.out HI.out)
    have HL3 := hide (HLW.out _ R3.out I3.out)
    have e0 : w3.cell? ⟨b2, 0, none⟩ = some (.int .i64 8) := by rw [cell_of_row _ _ _ _ _ _ I3.out.2.1]; rfl
    have e4 : w3.cell? ⟨b2, 4, none⟩ = some (.slice a4 sp.length c4) := by rw [cell_of_row _ _ _ _ _ _ I3.out.2.1]; rfl
    have e1 : w3.cell? ⟨b1, 0, none⟩ = some (.pointer (some ⟨wp, 0, none⟩)) := by rw [cell_of_row _ _ _ _ _ _ I3.out.1]; rfl
    clear d0 d1 HT HW HLW
    generalize sp.length = nsp at *
    go_wp2_with (go_at_call 167; refine HL3.out.mono ?_; rintro e w4 ⟨rfl, r4, x4⟩; have R4 := hide r4; have X4 := hide x4; clear r4 x4)
    go_end0
    exact ⟨rfl, R4.out, (KpO.of_below XW.out).trans (X3.out.trans X4.out)⟩
end Go.Proofs.YtlmhofjiobmodaaGreatDoor
/-
  slices.Equal of rows held against themselves: of none, of spans. No condition.
-/
namespace Go.Proofs.YtlmhofjiobmodaaGreatDoor
open Go.RowKit Go.Lib

theorem fields68 : Tryz.prog.fieldsOf 68 = #[⟨"Lo", 3, 0, false, "", "", 0⟩, ⟨"Hi", 3, 1, false, "", "", 8⟩] := by kernel_rfl
theorem und68 : Tryz.prog.underlying 68 = some (.struct (Tryz.prog.fieldsOf 68)) := by kernel_rfl
theorem held68 : Tryz.prog.stoodInHeld 68 = false := by kernel_rfl
theorem eq68 (a b : Int) (w : World) : (Op.equalIn 10000 68 (.agg #[.int .i64 a, .int .i64 b]) (.agg #[.int .i64 a, .int .i64 b])).run Tryz.prog w = .ok true w := by
  have h3 : ∀ (x : Int) w, (Op.equalIn 9999 3 (.int .i64 x) (.int .i64 x)).run Tryz.prog w = .ok true w := fun x w => by rw [show (9999 : Nat) = 9998 + 1 from rfl, run_equalIn_int w 9998 3 .i64 .i64 x x Tryz.underlying3]; simp
  have p0 : ∀ w, (part 3 #[.int .i64 a, .int .i64 b] 0).run Tryz.prog w = .ok (.int .i64 a) w := fun w => by kernel_rfl
  have p1 : ∀ w, (part 3 #[.int .i64 a, .int .i64 b] 1).run Tryz.prog w = .ok (.int .i64 b) w := fun w => by kernel_rfl
  rw [show (10000 : Nat) = 9999 + 1 from rfl, run_equalIn_struct w 9999 68 _ _ und68 held68, fields68]
  simp [Op.eqFields, Sem.run_bind, p0, p1, h3]
set_option maxRecDepth 100000 in
theorem equalP_none (a : Option Addr) (c : Nat) (w : World) : Calls Tryz.prog 110 #[.slice a 0 c, .slice a 0 c] w fun e w' => e = .returned (.bool true) ∧ w' = w := by
  go_enter Tryz.func110, Tryz.ntmps110
  go_wp2
  go_loopg [5, 13] 2 (fun gg x5 x13 wr => x13 = .int .i64 0 ∧ Hid (wr = w) ∧ 0 < gg)
  case atStart => exact ⟨rfl, hide rfl, by omega⟩
  case round =>
    obtain ⟨rfl, HW, hg⟩ := hrel
    go_wp2
    go_ret
    exact ⟨rfl, HW.out⟩
set_option maxRecDepth 100000 in
theorem equalN_none (a : Option Addr) (c : Nat) (w : World) : Calls Tryz.prog 112 #[.slice a 0 c, .slice a 0 c] w fun e w' => e = .returned (.bool true) ∧ w' = w := by
  go_enter Tryz.func112, Tryz.ntmps112
  go_wp2
  go_loopg [5, 13] 2 (fun gg x5 x13 wr => x13 = .int .i64 0 ∧ Hid (wr = w) ∧ 0 < gg)
  case atStart => exact ⟨rfl, hide rfl, by omega⟩
  case round =>
    obtain ⟨rfl, HW, hg⟩ := hrel
    go_wp2
    go_ret
    exact ⟨rfl, HW.out⟩
set_option maxRecDepth 100000 in
set_option maxHeartbeats 2000000 in
theorem equalS_self {w : World} {b0 : Nat} {v : Value} {sp : List (Int × Int)} (hl : sp.length ≤ 1048576) (h : w.ownsRow b0 68 2 v sp.length (prC sp)) : Calls Tryz.prog 111 #[v, v] w fun e w' => e = .returned (.bool true) ∧ Below w.heap.size w w' := by
  obtain ⟨ao, cp, hv, hav⟩ := own_shape h
  subst hv
  have HO := hide h
  have HAV := hide hav
  have HLL := hide hl
  clear h hav hl
  go_enter Tryz.func111, Tryz.ntmps111
  go_wp2
  go_loopg [5, 13] (sp.length + 1) (fun gg x5 x13 wr => ∃ k : Nat, x13 = .int .i64 (k : Nat) ∧ k ≤ sp.length ∧ Hid (Below w.heap.size w wr) ∧ sp.length - k < gg)
  case atStart => exact ⟨0, rfl, by omega, hide (Below.refl _ _), by omega⟩
  case round =>
    obtain ⟨k, rfl, hk, XR, hg⟩ := hrel
    have HG := hide hg
    clear hg
    by_cases hlt : k < sp.length
    · have hlt' : (k : Int) < (sp.length : Int) := by omega
      obtain ⟨g, rfl⟩ : ∃ g, ao = some ⟨g, 0, none⟩ := HAV.out (by omega)
      have ho := own_below HO.out XR.out
      obtain ⟨p1, p2⟩ := prC_get sp k hlt
      have c1 : wr.cell? ⟨g, k * 2, none⟩ = some (.int .i64 sp[k].1) := by rw [World.ownsRow.cellAt ho (k * 2) (by omega)]; exact p1
      have c2 : wr.cell? ⟨g, k * 2 + 1, none⟩ = some (.int .i64 sp[k].2) := by rw [World.ownsRow.cellAt ho (k * 2 + 1) (by omega)]; exact p2
      obtain ⟨z, hzz⟩ : ∃ z, z = sp[k] := ⟨_, rfl⟩
      rw [← hzz] at c1 c2
      have HK := hide hlt
      clear hzz p1 p2 ho hlt
      have heq := eq68 z.1 z.2
      have fw : IntKind.i64.wrap ((k : Int) + 1) = ((k + 1 : Nat) : Int) := by have := HLL.out; have := HK.out; simp [IntKind.wrap, IntKind.bits, IntKind.signed]; omega
      go_upto_region 6 with fail
      go_quiet (fail)
      go_wp2
      go_roundg (sp.length - (k + 1) + 1)
      case measure => have := HG.out; have := HK.out; omega
      case rel => exact ⟨k + 1, by first | rfl | (rw [show wrap64 ((k : Int) + 1) = ((k + 1 : Nat) : Int) from fw]), by have := HK.out; omega, hide ⟨XR.out.os, XR.out.tape, XR.out.output, XR.out.size, XR.out.block⟩, by omega⟩
    · have hlt' : ¬ (k : Int) < (sp.length : Int) := by omega
      go_wp2
      go_ret
      exact ⟨rfl, XR.out⟩
end Go.Proofs.YtlmhofjiobmodaaGreatDoor
/-
  Over, operators, holds by their contracts. Condition: a condition that is neither deep nor wide.
-/
namespace Go.Proofs.YtlmhofjiobmodaaGreatDoor
open Go.RowKit Go.Lib

set_option maxRecDepth 100000 in
set_option maxHeartbeats 2000000 in
theorem over_ok {w : World} {base : Nat} {c : CT} {vs : List Value} {bs : List Nat} (hd : dpt c ≤ 16) (hn : dpt c ≤ 1048576) (hw : Nrw 1048576 c) (hc : CtAt w base c vs bs) : Calls Tryz.prog 146 #[.agg vs.toArray] w fun e w' => e = .returned (.agg vs.toArray) ∧ Below w.heap.size w w' := by
  have HDA := hide (fun V (x : Below w.heap.size w V) => depth_any 1048576 c V base vs bs hn (Nat.le_refl _) hw (hc.below x))
  obtain ⟨a3, c3, a4, c4, a5, c5, a6, c6, rfl⟩ := hc.eight
  obtain ⟨ck, hck⟩ : ∃ ck, ck = c.k := ⟨_, rfl⟩
  obtain ⟨cn, hcn⟩ : ∃ cn, cn = c.nm := ⟨_, rfl⟩
  obtain ⟨ct, hct⟩ : ∃ ct, ct = c.tx := ⟨_, rfl⟩
  obtain ⟨cp, hcp⟩ : ∃ cp, cp = c.p := ⟨_, rfl⟩
  obtain ⟨n3, hn3⟩ : ∃ n, n = c.pre.length := ⟨_, rfl⟩
  obtain ⟨n4, hn4⟩ : ∃ n, n = c.sp.length := ⟨_, rfl⟩
  obtain ⟨n5, hn5⟩ : ∃ n, n = c.ns.length := ⟨_, rfl⟩
  obtain ⟨n6, hn6⟩ : ∃ n, n = c.kids.length := ⟨_, rfl⟩
  rw [← hck, ← hcn, ← hct, ← hcp, ← hn3, ← hn4, ← hn5, ← hn6] at HDA ⊢
  clear hck hcn hct hcp hn3 hn4 hn5 hn6 hc hw
  generalize dpt c = D at *
  have hg : (¬ (16 : Int) < (D : Int)) := by omega
  obtain ⟨W, hW⟩ : ∃ W, W = (w.alloc (.cells #[.int .i64 ck, .string ⟨cn.toArray⟩, .string ⟨ct.toArray⟩, .slice a3 n3 c3, .slice a4 n4 c4, .slice a5 n5 c5, .slice a6 n6 c6, .int .i64 cp] 60)).alloc (.cells #[.int .i64 0, .string ⟨#[]⟩, .string ⟨#[]⟩, .slice none 0 0, .slice none 0 0, .slice none 0 0, .slice none 0 0, .int .i64 0] 60) := ⟨_, rfl⟩
  have XW := hide (show Below w.heap.size w W by rw [hW]; exact al (al (Below.refl _ _) _) _)
  obtain ⟨P, hP⟩ : ∃ P, P = w.heap.size := ⟨_, rfl⟩
  obtain ⟨Q, hQ⟩ : ∃ Q, Q = w.heap.size + 1 := ⟨_, rfl⟩
  have HB := hide (show W.heap[P]? = some (.cells #[.int .i64 ck, .string ⟨cn.toArray⟩, .string ⟨ct.toArray⟩, .slice a3 n3 c3, .slice a4 n4 c4, .slice a5 n5 c5, .slice a6 n6 c6, .int .i64 cp] 60 (0, 0)) by
    rw [hW, hP]
    exact (heap_alloc_old _ _ (by simp)).trans (heap_alloc_new w _))
  have HQ := hide (show W.heap[Q]? = some (.cells #[.int .i64 0, .string ⟨#[]⟩, .string ⟨#[]⟩, .slice none 0 0, .slice none 0 0, .slice none 0 0, .slice none 0 0, .int .i64 0] 60 (0, 0)) by
    rw [hW, hQ, show w.heap.size + 1 = (w.alloc (.cells #[.int .i64 ck, .string ⟨cn.toArray⟩, .string ⟨ct.toArray⟩, .slice a3 n3 c3, .slice a4 n4 c4, .slice a5 n5 c5, .slice a6 n6 c6, .int .i64 cp] 60)).heap.size by simp]
    exact heap_alloc_new _ _)
  have HPQ : Hid (w.heap.size ≤ Q) := by unfold Hid; omega
  go_enter Tryz.func146, Tryz.ntmps146
  go_upto_region 1 with fail
  rw [← hQ, ← hW, ← hP]
  clear hW hP hQ
  obtain ⟨q0, q1, q2, q3, q4, q5, q6, q7⟩ := ld8 HB.out
  have HDB := hide (HDA.out W XW.out)
  go_upto_region 3 with (go_at_call 182; refine HDB.out.mono ?_; rintro e w1 ⟨rfl, x1⟩; have X1 := hide x1; clear x1)
  have HB1 := hide ((X1.out.block P (lt_of_block HB.out)).trans HB.out)
  have HQ1 := hide ((X1.out.block Q (lt_of_block HQ.out)).trans HQ.out)
  clear q0 q1 q2 q3 q4 q5 q6 q7
  obtain ⟨q0, q1, q2, q3, q4, q5, q6, q7⟩ := ld8 HB1.out
  obtain ⟨⟨_, p0⟩, f0, ⟨_, p1⟩, f1, ⟨_, p2⟩, f2, ⟨_, p3⟩, f3, ⟨_, p4⟩, f4, ⟨_, p5⟩, f5, ⟨_, p6⟩, f6, ⟨_, p7⟩, f7, hsb, hsk⟩ := st8 HQ1.out (.int .i64 ck) (.string ⟨cn.toArray⟩) (.string ⟨ct.toArray⟩) (.slice a3 n3 c3) (.slice a4 n4 c4) (.slice a5 n5 c5) (.slice a6 n6 c6) (.int .i64 cp)
  have HSB := hide hsb
  have XA := hide (bt XW.out X1.out (Nat.le_refl _))
  have XK : Hid (Below w.heap.size w ((((((((w1.setCell ⟨Q, 0, none⟩ (.int .i64 ck)).setCell ⟨Q, 1, none⟩ (.string ⟨cn.toArray⟩)).setCell ⟨Q, 2, none⟩ (.string ⟨ct.toArray⟩)).setCell ⟨Q, 3, none⟩ (.slice a3 n3 c3)).setCell ⟨Q, 4, none⟩ (.slice a4 n4 c4)).setCell ⟨Q, 5, none⟩ (.slice a5 n5 c5)).setCell ⟨Q, 6, none⟩ (.slice a6 n6 c6)).setCell ⟨Q, 7, none⟩ (.int .i64 cp))) := ((((((((XA.out.setCell HPQ.out _).setCell HPQ.out _).setCell HPQ.out _).setCell HPQ.out _).setCell HPQ.out _).setCell HPQ.out _).setCell HPQ.out _).setCell HPQ.out _)
  clear hsb hsk
  go_wp2
  clear q0 q1 q2 q3 q4 q5 q6 q7 p0 f0 p1 f1 p2 f2 p3 f3 p4 f4 p5 f5 p6 f6 p7 f7
  generalize ((((((((w1.setCell ⟨Q, 0, none⟩ (.int .i64 ck)).setCell ⟨Q, 1, none⟩ (.string ⟨cn.toArray⟩)).setCell ⟨Q, 2, none⟩ (.string ⟨ct.toArray⟩)).setCell ⟨Q, 3, none⟩ (.slice a3 n3 c3)).setCell ⟨Q, 4, none⟩ (.slice a4 n4 c4)).setCell ⟨Q, 5, none⟩ (.slice a5 n5 c5)).setCell ⟨Q, 6, none⟩ (.slice a6 n6 c6)).setCell ⟨Q, 7, none⟩ (.int .i64 cp)) = w9 at *
  obtain ⟨q0, q1, q2, q3, q4, q5, q6, q7⟩ := ld8 HSB.out
  refine bodyPost_ret (by simp [results, Tryz.results146, go_sem, q0, q1, q2, q3, q4, q5, q6, q7]; try rfl) rfl ?_
  exact ⟨rfl, XK.out⟩
set_option maxRecDepth 100000 in
set_option maxHeartbeats 2000000 in
theorem over_bad {w : World} {base : Nat} {c : CT} {vs : List Value} {bs : List Nat} (hd : ¬ dpt c ≤ 16) (hn : dpt c ≤ 1048576) (hw : Nrw 1048576 c) (hc : CtAt w base c vs bs) : Calls Tryz.prog 146 #[.agg vs.toArray] w fun e w' => e = pan 91 c.p ∧ Below w.heap.size w w' := by
  have HDA := hide (fun V (x : Below w.heap.size w V) => depth_any 1048576 c V base vs bs hn (Nat.le_refl _) hw (hc.below x))
  obtain ⟨a3, c3, a4, c4, a5, c5, a6, c6, rfl⟩ := hc.eight
  obtain ⟨ck, hck⟩ : ∃ ck, ck = c.k := ⟨_, rfl⟩
  obtain ⟨cn, hcn⟩ : ∃ cn, cn = c.nm := ⟨_, rfl⟩
  obtain ⟨ct, hct⟩ : ∃ ct, ct = c.tx := ⟨_, rfl⟩
  obtain ⟨cp, hcp⟩ : ∃ cp, cp = c.p := ⟨_, rfl⟩
  obtain ⟨n3, hn3⟩ : ∃ n, n = c.pre.length := ⟨_, rfl⟩
  obtain ⟨n4, hn4⟩ : ∃ n, n = c.sp.length := ⟨_, rfl⟩
  obtain ⟨n5, hn5⟩ : ∃ n, n = c.ns.length := ⟨_, rfl⟩
  obtain ⟨n6, hn6⟩ : ∃ n, n = c.kids.length := ⟨_, rfl⟩
  rw [← hck, ← hcn, ← hct, ← hcp, ← hn3, ← hn4, ← hn5, ← hn6] at HDA ⊢
  clear hck hcn hct hcp hn3 hn4 hn5 hn6 hc hw
  generalize dpt c = D at *
  have hg : ((16 : Int) < (D : Int)) := by omega
  obtain ⟨W, hW⟩ : ∃ W, W = (w.alloc (.cells #[.int .i64 ck, .string ⟨cn.toArray⟩, .string ⟨ct.toArray⟩, .slice a3 n3 c3, .slice a4 n4 c4, .slice a5 n5 c5, .slice a6 n6 c6, .int .i64 cp] 60)).alloc (.cells #[.int .i64 0, .string ⟨#[]⟩, .string ⟨#[]⟩, .slice none 0 0, .slice none 0 0, .slice none 0 0, .slice none 0 0, .int .i64 0] 60) := ⟨_, rfl⟩
  have XW := hide (show Below w.heap.size w W by rw [hW]; exact al (al (Below.refl _ _) _) _)
  obtain ⟨P, hP⟩ : ∃ P, P = w.heap.size := ⟨_, rfl⟩
  obtain ⟨Q, hQ⟩ : ∃ Q, Q = w.heap.size + 1 := ⟨_, rfl⟩
  have HB := hide (show W.heap[P]? = some (.cells #[.int .i64 ck, .string ⟨cn.toArray⟩, .string ⟨ct.toArray⟩, .slice a3 n3 c3, .slice a4 n4 c4, .slice a5 n5 c5, .slice a6 n6 c6, .int .i64 cp] 60 (0, 0)) by
    rw [hW, hP]
    exact (heap_alloc_old _ _ (by simp)).trans (heap_alloc_new w _))
  have HQ := hide (show W.heap[Q]? = some (.cells #[.int .i64 0, .string ⟨#[]⟩, .string ⟨#[]⟩, .slice none 0 0, .slice none 0 0, .slice none 0 0, .slice none 0 0, .int .i64 0] 60 (0, 0)) by
    rw [hW, hQ, show w.heap.size + 1 = (w.alloc (.cells #[.int .i64 ck, .string ⟨cn.toArray⟩, .string ⟨ct.toArray⟩, .slice a3 n3 c3, .slice a4 n4 c4, .slice a5 n5 c5, .slice a6 n6 c6, .int .i64 cp] 60)).heap.size by simp]
    exact heap_alloc_new _ _)
  have HPQ : Hid (w.heap.size ≤ Q) := by unfold Hid; omega
  go_enter Tryz.func146, Tryz.ntmps146
  go_upto_region 1 with fail
  rw [← hQ, ← hW, ← hP]
  clear hW hP hQ
  obtain ⟨q0, q1, q2, q3, q4, q5, q6, q7⟩ := ld8 HB.out
  have HDB := hide (HDA.out W XW.out)
  go_upto_region 2 with (go_at_call 182; refine HDB.out.mono ?_; rintro e w1 ⟨rfl, x1⟩; have X1 := hide x1; clear x1)
  have HB1 := hide ((X1.out.block P (lt_of_block HB.out)).trans HB.out)
  clear q0 q1 q2 q3 q4 q5 q6 q7
  obtain ⟨q0, q1, q2, q3, q4, q5, q6, q7⟩ := ld8 HB1.out
  go_wp2
  exact ⟨rfl, rfl, bt XW.out X1.out (Nat.le_refl _)⟩
set_option maxRecDepth 100000 in
set_option maxHeartbeats 2000000 in
theorem operators_any (w : World) : Calls Tryz.prog 116 #[] w fun e w' => e = .returned (.agg #[.string ⟨#[111, 114]⟩, .int .i64 6, .int .i64 1, .string ⟨#[97, 110, 100]⟩, .int .i64 5, .int .i64 2, .string ⟨#[110, 111, 116]⟩, .int .i64 4, .int .i64 2]) ∧ Below w.heap.size w w' := by
  have HB := hide (heap_alloc_new w (.cells #[.string ⟨#[111, 114]⟩, .int .i64 6, .int .i64 1, .string ⟨#[97, 110, 100]⟩, .int .i64 5, .int .i64 2, .string ⟨#[110, 111, 116]⟩, .int .i64 4, .int .i64 2] 152))
  have XW : Hid (Below w.heap.size w (w.alloc (.cells #[.string ⟨#[111, 114]⟩, .int .i64 6, .int .i64 1, .string ⟨#[97, 110, 100]⟩, .int .i64 5, .int .i64 2, .string ⟨#[110, 111, 116]⟩, .int .i64 4, .int .i64 2] 152))) := al (Below.refl _ _) _
  go_enter Tryz.func116, Tryz.ntmps116
  go_wp2
  generalize w.alloc (.cells #[.string ⟨#[111, 114]⟩, .int .i64 6, .int .i64 1, .string ⟨#[97, 110, 100]⟩, .int .i64 5, .int .i64 2, .string ⟨#[110, 111, 116]⟩, .int .i64 4, .int .i64 2] 152) = w9 at *
  have q0 : w9.cell? ⟨w.heap.size, 0, none⟩ = #[.string ⟨#[111, 114]⟩, .int .i64 6, .int .i64 1, .string ⟨#[97, 110, 100]⟩, .int .i64 5, .int .i64 2, .string ⟨#[110, 111, 116]⟩, .int .i64 4, .int .i64 2][0]? := by rw [cell_of_row _ _ _ _ _ _ HB.out]
  have q1 : w9.cell? ⟨w.heap.size, 1, none⟩ = #[.string ⟨#[111, 114]⟩, .int .i64 6, .int .i64 1, .string ⟨#[97, 110, 100]⟩, .int .i64 5, .int .i64 2, .string ⟨#[110, 111, 116]⟩, .int .i64 4, .int .i64 2][1]? := by rw [cell_of_row _ _ _ _ _ _ HB.out]
  have q2 : w9.cell? ⟨w.heap.size, 2, none⟩ = #[.string ⟨#[111, 114]⟩, .int .i64 6, .int .i64 1, .string ⟨#[97, 110, 100]⟩, .int .i64 5, .int .i64 2, .string ⟨#[110, 111, 116]⟩, .int .i64 4, .int .i64 2][2]? := by rw [cell_of_row _ _ _ _ _ _ HB.out]
  have q3 : w9.cell? ⟨w.heap.size, 3, none⟩ = #[.string ⟨#[111, 114]⟩, .int .i64 6, .int .i64 1, .string ⟨#[97, 110, 100]⟩, .int .i64 5, .int .i64 2, .string ⟨#[110, 111, 116]⟩, .int .i64 4, .int .i64 2][3]? := by rw [cell_of_row _ _ _ _ _ _ HB.out]
  have q4 : w9.cell? ⟨w.heap.size, 4, none⟩ = #[.string ⟨#[111, 114]⟩, .int .i64 6, .int .i64 1, .string ⟨#[97, 110, 100]⟩, .int .i64 5, .int .i64 2, .string ⟨#[110, 111, 116]⟩, .int .i64 4, .int .i64 2][4]? := by rw [cell_of_row _ _ _ _ _ _ HB.out]
  have q5 : w9.cell? ⟨w.heap.size, 5, none⟩ = #[.string ⟨#[111, 114]⟩, .int .i64 6, .int .i64 1, .string ⟨#[97, 110, 100]⟩, .int .i64 5, .int .i64 2, .string ⟨#[110, 111, 116]⟩, .int .i64 4, .int .i64 2][5]? := by rw [cell_of_row _ _ _ _ _ _ HB.out]
  have q6 : w9.cell? ⟨w.heap.size, 6, none⟩ = #[.string ⟨#[111, 114]⟩, .int .i64 6, .int .i64 1, .string ⟨#[97, 110, 100]⟩, .int .i64 5, .int .i64 2, .string ⟨#[110, 111, 116]⟩, .int .i64 4, .int .i64 2][6]? := by rw [cell_of_row _ _ _ _ _ _ HB.out]
  have q7 : w9.cell? ⟨w.heap.size, 7, none⟩ = #[.string ⟨#[111, 114]⟩, .int .i64 6, .int .i64 1, .string ⟨#[97, 110, 100]⟩, .int .i64 5, .int .i64 2, .string ⟨#[110, 111, 116]⟩, .int .i64 4, .int .i64 2][7]? := by rw [cell_of_row _ _ _ _ _ _ HB.out]
  have q8 : w9.cell? ⟨w.heap.size, 8, none⟩ = #[.string ⟨#[111, 114]⟩, .int .i64 6, .int .i64 1, .string ⟨#[97, 110, 100]⟩, .int .i64 5, .int .i64 2, .string ⟨#[110, 111, 116]⟩, .int .i64 4, .int .i64 2][8]? := by rw [cell_of_row _ _ _ _ _ _ HB.out]
  simp at q0 q1 q2 q3 q4 q5 q6 q7 q8
  refine bodyPost_ret (by simp [results, Tryz.results116, go_sem, q0, q1, q2, q3, q4, q5, q6, q7, q8]; try rfl) rfl ?_
  exact ⟨rfl, XW.out⟩
end Go.Proofs.YtlmhofjiobmodaaGreatDoor
