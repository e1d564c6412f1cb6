/-
  The writer's test of ports, of methods and of a header that there is, where it goes well. Condition: the numbers are 80, 89, 90; what is written fits.
-/
import Derived.Test.YthgikaklcglpiaaGreatDoorP13
import Derived.Test.YthgikaklcglpiaaGreatDoorP10
namespace Go.Proofs.YthgikaklcglpiaaGreatDoor.L9
open Go.RowKit Go.Lib

/-- What the function that writes a method sees. -/
def InvN (b0 wp b1 b2 : Nat) (vs : Array Value) (v5 : Value) (ns : List By) (W : World) : Prop := W.heap[b1]? = some (.cells #[.pointer (some ⟨wp, 0, none⟩)] 260 (0, 0)) ∧ W.heap[b2]? = some (.cells vs 27 (0, 0)) ∧ W.ownsRow b0 9 1 v5 ns.length (nsC ns)
theorem InvN.kpo {b0 wp b1 b2 base : Nat} {vs : Array Value} {v5 : Value} {ns : List By} {a b : World} {s : By} {pt : Bool} (hw : WrA a base wp s pt) (k : KpO 5 base wp a b) (h : InvN b0 wp b1 b2 vs v5 ns a) : InvN b0 wp b1 b2 vs v5 ns b :=
  ⟨k.box h.1 (by decide) (hw.ne h.1 (by decide)), k.box h.2.1 (by decide) (hw.ne h.2.1 (by decide)), k.ownS h.2.2 (by decide) hw⟩
set_option maxRecDepth 100000 in
set_option maxHeartbeats 2000000 in
theorem meth_part {W : World} {base wp b0 b1 b2 : Nat} {x0 x1 x2 x3 x4 x6 x7 v5 : Value} {ns : List By} {i : Nat} {s x : WS} (hi : i < ns.length) (hl : ns.length ≤ 32) (h : WrA W base wp s.1 s.2) (hI : InvN b0 wp b1 b2 #[x0, x1, x2, x3, x4, v5, x6, x7] v5 ns W) (hx : metW (ns.getD i []) s = some x) :
    Calls Tryz.prog 338 #[.int .i64 (i : Nat), .pointer (some ⟨b1, 0, none⟩), .pointer (some ⟨b2, 0, none⟩)] W (PostW base wp W x) := by
  obtain ⟨h1, h2, h3⟩ := hI
  have hz : ns.getD i [] = ns[i] := by rw [List.getD_eq_getElem?_getD, List.getElem?_eq_getElem hi]; rfl
  rw [hz] at hx
  obtain ⟨a4, c4, hv, hav⟩ := own_shape h3
  obtain ⟨g, hg⟩ := hav (by omega)
  subst hg
  subst hv
  have hlt : (i : Int) < (ns.length : Int) := by omega
  have c1 : W.cell? ⟨g, i, none⟩ = some (.string ⟨(ns[i]).toArray⟩) := by rw [World.ownsRow.cellAt h3 i (by omega)]; simp [nsC, hi]
  have c3 : W.cell? ⟨b1, 0, none⟩ = some (.pointer (some ⟨wp, 0, none⟩)) := by rw [cell_of_row _ _ _ _ _ _ h1]; rfl
  have c4' : W.cell? ⟨b2, 5, none⟩ = some (.slice (some ⟨g, 0, none⟩) ns.length c4) := by rw [cell_of_row _ _ _ _ _ _ h2]; rfl
  have HP := hide (fun (z : By) (e : z = ns[i]) (V : World) (y : Below W.heap.size W V) => method_ok (t := z) (x := x) (h.below y) (by rw [e]; exact hx))
  obtain ⟨z, hzz⟩ : ∃ z, z = ns[i] := ⟨_, rfl⟩
  rw [← hzz] at c1
  have HZ := hide hzz
  have HPP := hide (HP.out z hzz)
  have HS0 : Hid ((W.drew.cell? ⟨g, i, none⟩ = some (.string ⟨z.toArray⟩) ∧ W.drew.cell? ⟨b1, 0, none⟩ = some (.pointer (some ⟨wp, 0, none⟩)) ∧ W.drew.cell? ⟨b2, 5, none⟩ = some (.slice (some ⟨g, 0, none⟩) ns.length c4))) := ⟨c1, c3, c4'⟩
  clear h1 h2 h3 hz hx hav c1 c3 c4' h HP hzz HZ hi
  have XD : Hid (Below W.heap.size W W.drew) := (Below.refl _ _).drew
  generalize ns.length = n at *
  go_enter Tryz.func338, Tryz.ntmps338
  refine wp_unt (S := fun V => V.cell? ⟨g, i, none⟩ = some (.string ⟨z.toArray⟩) ∧ V.cell? ⟨b1, 0, none⟩ = some (.pointer (some ⟨wp, 0, none⟩)) ∧ V.cell? ⟨b2, 5, none⟩ = some (.slice (some ⟨g, 0, none⟩) n c4)) 6 (by kernel_rfl) ?_
  refine UntH.take (i := 0) (some 4) rfl rfl (by kernel_rfl) (by kernel_rfl) (by kernel_rfl) (by kernel_rfl) (fun _ _ _ _ h => h) (by rfl) HS0.out ?_
  apply Exists.intro
  refine ⟨fun w' hw' => ?_, ?_⟩
  · obtain ⟨q1, q3, q4⟩ := hw'
    go_simp
    first | done | rfl
  try simp only [Act.put, List.setIfInBounds_toArray, List.set_cons_zero, List.set_cons_succ]
  refine UntH.take (i := 1) (some 5) rfl rfl (by kernel_rfl) (by kernel_rfl) (by kernel_rfl) (by kernel_rfl) (fun _ _ _ _ h => h) (by rfl) HS0.out ?_
  apply Exists.intro
  refine ⟨fun w' hw' => ?_, ?_⟩
  · obtain ⟨q1, q3, q4⟩ := hw'
    go_simp
    first | done | rfl
  try simp only [Act.put, List.setIfInBounds_toArray, List.set_cons_zero, List.set_cons_succ]
  refine UntH.take (i := 2) (some 6) rfl rfl (by kernel_rfl) (by kernel_rfl) (by kernel_rfl) (by kernel_rfl) (fun _ _ _ _ h => h) (by rfl) HS0.out ?_
  apply Exists.intro
  refine ⟨fun w' hw' => ?_, ?_⟩
  · obtain ⟨q1, q3, q4⟩ := hw'
    go_simp
    first | done | rfl
  try simp only [Act.put, List.setIfInBounds_toArray, List.set_cons_zero, List.set_cons_succ]
  refine UntH.take (i := 3) (some 7) rfl rfl (by kernel_rfl) (by kernel_rfl) (by kernel_rfl) (by kernel_rfl) (fun _ _ _ _ h => h) (by rfl) HS0.out ?_
  apply Exists.intro
  refine ⟨fun w' hw' => ?_, ?_⟩
  · obtain ⟨q1, q3, q4⟩ := hw'
    go_simp
    first | done | rfl
  try simp only [Act.put, List.setIfInBounds_toArray, List.set_cons_zero, List.set_cons_succ]
  refine UntH.take (i := 4) (some 8) rfl rfl (by kernel_rfl) (by kernel_rfl) (by kernel_rfl) (by kernel_rfl) (fun _ _ _ _ h => h) (by rfl) HS0.out ?_
  apply Exists.intro
  refine ⟨fun w' hw' => ?_, ?_⟩
  · obtain ⟨q1, q3, q4⟩ := hw'
    go_simp
    first | done | rfl
  try simp only [Act.put, List.setIfInBounds_toArray, List.set_cons_zero, List.set_cons_succ]
  refine UntH.take (i := 5) (some 9) rfl rfl (by kernel_rfl) (by kernel_rfl) (by kernel_rfl) (by kernel_rfl) (fun _ _ _ _ h => h) (by rfl) HS0.out ?_
  apply Exists.intro
  refine ⟨fun w' hw' => ?_, ?_⟩
  · obtain ⟨q1, q3, q4⟩ := hw'
    go_simp
    first | done | rfl
  try simp only [Act.put, List.setIfInBounds_toArray, List.set_cons_zero, List.set_cons_succ]
  refine UntH.last (by kernel_rfl) rfl (by kernel_rfl) (by kernel_rfl) (fun K hK => ?_)
  go_simp
  refine (HPP.out _ XD.out).mono ?_
  rintro e w3 ⟨rfl, r3, x3⟩
  refine hK _ _ ?_
  have R3 := hide r3
  have X3 := hide x3
  clear hK K r3 x3
  go_wp2
  go_end0
  exact ⟨rfl, R3.out, (KpO.of_below XD.out).trans X3.out⟩
theorem enters336 : ∀ (args : Array Value) (w : World), (callFunc 336 args).run Tryz.prog w = .ok (.enter 336 args) w := fun _ _ => by kernel_rfl
theorem enters338 : ∀ (args : Array Value) (w : World), (callFunc 338 args).run Tryz.prog w = .ok (.enter 338 args) w := fun _ _ => by kernel_rfl
theorem CtAt.rows {w : World} {b0 : Nat} {c : CT} {bs : List Nat} {v0 v1 v2 v3 v4 v5 v6 v7 : Value} (hc : CtAt w b0 c [v0, v1, v2, v3, v4, v5, v6, v7] bs) : w.ownsRow b0 75 2 v4 c.sp.length (prC c.sp) ∧ w.ownsRow b0 9 1 v5 c.ns.length (nsC c.ns) := by
  cases c with
  | mk k nm tx pre sp ns kids p =>
    unfold CtAt at hc
    obtain ⟨u3, u4, u5, u6, cs, ks, h1, h2, h3, h4, _⟩ := hc
    injection h1 with _ h1
    injection h1 with _ h1
    injection h1 with _ h1
    injection h1 with _ h1
    injection h1 with e4 h1
    injection h1 with e5 h1
    subst e4
    subst e5
    exact ⟨h3, h4⟩
/-- What a test is written as. -/
def tstW (c : CT) (s : WS) : Option WS := if c.k = 8 then (wrdW wPort s).bind fun a => lstW (fun i => spnW (c.sp.getD i (0, 0))) c.sp.length a
  else if c.k = 9 then (wrdW wMethod s).bind fun a => lstW (fun i => metW (c.ns.getD i [])) c.ns.length a
  else if c.k = 12 then (wrdW wHas s).bind fun a => txtW c.nm a else none
set_option maxRecDepth 100000 in
set_option maxHeartbeats 4000000 in
theorem test_ok {w : World} {base wp b0 : Nat} {c : CT} {vs : List Value} {bs : List Nat} {s x : WS} (h : WrA w base wp s.1 s.2) (hc : CtAt w b0 c vs bs) (hd : ∀ z ∈ c.sp, Dg3 z.1 ∧ Dg3 z.2) (hx : tstW c s = some x) :
    Calls Tryz.prog 302 #[.pointer (some ⟨wp, 0, none⟩), .agg vs.toArray] w (PostW base wp w x) := by
  have hmf : ∀ (fn : Fn) (first cap : Array Value) (w : World), (Instr.makeFunc fn first cap).run Tryz.prog w = .ok (.func fn first cap) w := fun _ _ _ _ => rfl
  obtain ⟨a3, c3, a4, c4, a5, c5, a6, c6, rfl⟩ := hc.eight
  obtain ⟨hsr, hnr⟩ := hc.rows
  clear hc
  obtain ⟨W, hW⟩ : ∃ W, W = (w.alloc (.cells #[.pointer (some ⟨wp, 0, none⟩)] 260)).alloc (.cells #[.int .i64 c.k, .string ⟨c.nm.toArray⟩, .string ⟨c.tx.toArray⟩, .slice a3 c.pre.length c3, .slice a4 c.sp.length c4, .slice a5 c.ns.length c5, .slice a6 c.kids.length c6, .int .i64 c.p] 27) := ⟨_, rfl⟩
  obtain ⟨b1, hb1⟩ : ∃ b, b = w.heap.size := ⟨_, rfl⟩
  obtain ⟨b2, hb2⟩ : ∃ b, b = w.heap.size + 1 := ⟨_, rfl⟩
  have XW := hide (show Below w.heap.size w W by rw [hW]; exact al (al (Below.refl _ _) _) _)
  have B1 := hide (show W.heap[b1]? = some (.cells #[.pointer (some ⟨wp, 0, none⟩)] 260 (0, 0)) by
    rw [hW, hb1]
    exact (heap_alloc_old _ _ (by simp)).trans (heap_alloc_new w _))
  have B2 := hide (show W.heap[b2]? = some (.cells #[.int .i64 c.k, .string ⟨c.nm.toArray⟩, .string ⟨c.tx.toArray⟩, .slice a3 c.pre.length c3, .slice a4 c.sp.length c4, .slice a5 c.ns.length c5, .slice a6 c.kids.length c6, .int .i64 c.p] 27 (0, 0)) by
    rw [hW, hb2, show w.heap.size + 1 = (w.alloc (.cells #[.pointer (some ⟨wp, 0, none⟩)] 260)).heap.size by simp]
    exact heap_alloc_new _ _)
  have RW := hide (h.below XW.out)
  have HI : Hid (InvS b0 wp b1 b2 #[.int .i64 c.k, .string ⟨c.nm.toArray⟩, .string ⟨c.tx.toArray⟩, .slice a3 c.pre.length c3, .slice a4 c.sp.length c4, .slice a5 c.ns.length c5, .slice a6 c.kids.length c6, .int .i64 c.p] (.slice a4 c.sp.length c4) c.sp W) := ⟨B1.out, B2.out, own_below hsr XW.out⟩
  have HIN : Hid (InvN b0 wp b1 b2 #[.int .i64 c.k, .string ⟨c.nm.toArray⟩, .string ⟨c.tx.toArray⟩, .slice a3 c.pre.length c3, .slice a4 c.sp.length c4, .slice a5 c.ns.length c5, .slice a6 c.kids.length c6, .int .i64 c.p] (.slice a5 c.ns.length c5) c.ns W) := ⟨B1.out, B2.out, own_below hnr XW.out⟩
  have HM := hide must_ok
  clear hsr hnr h
  have HD := hide hd
  clear hd
  have KX : Hid (c.k = 8 ∧ (wrdW wPort s).bind (fun a => lstW (fun i => spnW (c.sp.getD i (0, 0))) c.sp.length a) = some x ∨ c.k = 9 ∧ (wrdW wMethod s).bind (fun a => lstW (fun i => metW (c.ns.getD i [])) c.ns.length a) = some x ∨ c.k = 12 ∧ (wrdW wHas s).bind (fun a => txtW c.nm a) = some x) := by
    unfold Hid
    unfold tstW at hx
    by_cases h1 : c.k = 8
    · rw [if_pos h1] at hx; exact .inl ⟨h1, hx⟩
    · rw [if_neg h1] at hx
      by_cases h2 : c.k = 9
      · rw [if_pos h2] at hx; exact .inr (.inl ⟨h2, hx⟩)
      · rw [if_neg h2] at hx
        by_cases h8 : c.k = 12
        · rw [if_pos h8] at hx; exact .inr (.inr ⟨h8, hx⟩)
        · rw [if_neg h8] at hx; cases hx
  clear hx
  generalize c.nm = cnm at *
  generalize c.tx = ctx at *
  generalize c.p = cp at *
  generalize c.pre.length = npre at *
  generalize c.kids.length = nkids at *
  generalize c.k = ck at *
  generalize c.sp = sp at *
  generalize c.ns = ns at *
  have hlen0 : ∀ (k : Nat) (r : By), tWord k = r → (1 ≤ k ∧ k ≤ 12) → ∀ V, Calls Tryz.prog 332 #[.int .i64 (k : Nat)] V fun e w' => e = .returned (.string ⟨r.toArray⟩) ∧ w' = V := fun k r e h V => e ▸ tWord_any k h.1 h.2 V
  rcases KX.out with ⟨rfl, hx⟩ | ⟨rfl, hx⟩ | ⟨rfl, hx⟩
  · obtain ⟨a, ha, hx⟩ := Option.bind_eq_some_iff.1 hx
    have HT := hide (hlen0 8 wPort rfl (by decide))
    have HW := hide (word_ok RW.out ha)
    unfold wPort at HT HW
    have HLW : Hid (∀ V, WrA V base wp a.1 a.2 → InvS b0 wp b1 b2 #[.int .i64 8, .string ⟨cnm.toArray⟩, .string ⟨ctx.toArray⟩, .slice a3 npre c3, .slice a4 sp.length c4, .slice a5 ns.length c5, .slice a6 nkids c6, .int .i64 cp] (.slice a4 sp.length c4) sp V → Calls Tryz.prog 333 #[.pointer (some ⟨wp, 0, none⟩), .int .i64 (sp.length : Nat), .func (.func 336) #[] #[.pointer (some ⟨b1, 0, none⟩), .pointer (some ⟨b2, 0, none⟩)]] V (PostW base wp V x)) := fun V r iv => by
      have hl : sp.length ≤ 32 := by
        unfold lstW at hx
        exact (Decidable.byContradiction (p := 1 ≤ sp.length ∧ sp.length ≤ 32) fun h => by rw [if_neg h] at hx; cases hx).2
      exact wlist_ok (caps := [.pointer (some ⟨b1, 0, none⟩), .pointer (some ⟨b2, 0, none⟩)]) (InvS b0 wp b1 b2 _ _ sp) (fun _ _ _ _ h1 h2 h3 => h3.kpo h1 h2) enters336 (fun W' s' x' i hi q1 q2 q3 => part_ok hi hl q1 q2 HD.out q3) r iv hx
    have d0 : W.cell? ⟨b2, 0, none⟩ = some (.int .i64 8) := by rw [cell_of_row _ _ _ _ _ _ B2.out]; rfl
    have d1 : W.cell? ⟨b1, 0, none⟩ = some (.pointer (some ⟨wp, 0, none⟩)) := by rw [cell_of_row _ _ _ _ _ _ B1.out]; rfl
    clear hlen0 KX hx ha
    go_enter Tryz.func302, Tryz.ntmps302
    go_upto_region 1 with fail
    rw [← hb2, ← hW, ← hb1]
    clear hW hb1 hb2
    go_upto_region 4 with (first | (go_at_call 332; refine (HT.out _).mono ?_; rintro e w1 ⟨rfl, hw⟩; have hw2 := hw.symm; clear hw; subst hw2) | (go_at_call 192; refine (HM.out _).mono ?_; rintro e w2 ⟨rfl, hw⟩; have hw2 := hw.symm; clear hw; subst hw2) | (go_at_call 248; refine HW.out.mono ?_; rintro e w3 ⟨rfl, r3, x3⟩; have R3 := hide r3; have X3 := hide x3; clear r3 x3))
    have I3 := hide (InvS.kpo RW.out X3.out HI.out)
    have HL3 := hide (HLW.out _ R3.out I3.out)
    have e0 : w3.cell? ⟨b2, 0, none⟩ = some (.int .i64 8) := by rw [cell_of_row _ _ _ _ _ _ I3.out.2.1]; rfl
    have e4 : w3.cell? ⟨b2, 4, none⟩ = some (.slice a4 sp.length c4) := by rw [cell_of_row _ _ _ _ _ _ I3.out.2.1]; rfl
    have e1 : w3.cell? ⟨b1, 0, none⟩ = some (.pointer (some ⟨wp, 0, none⟩)) := by rw [cell_of_row _ _ _ _ _ _ I3.out.1]; rfl
    clear d0 d1 HT HW HLW
    generalize sp.length = nsp at *
    go_wp2_with (go_at_call 333; refine HL3.out.mono ?_; rintro e w4 ⟨rfl, r4, x4⟩; have R4 := hide r4; have X4 := hide x4; clear r4 x4)
    go_end0
    exact ⟨rfl, R4.out, (KpO.of_below XW.out).trans (X3.out.trans X4.out)⟩
  · obtain ⟨a, ha, hx⟩ := Option.bind_eq_some_iff.1 hx
    have HT := hide (hlen0 9 wMethod rfl (by decide))
    have HW := hide (word_ok RW.out ha)
    unfold wMethod at HT HW
    have HLW : Hid (∀ V, WrA V base wp a.1 a.2 → InvN b0 wp b1 b2 #[.int .i64 9, .string ⟨cnm.toArray⟩, .string ⟨ctx.toArray⟩, .slice a3 npre c3, .slice a4 sp.length c4, .slice a5 ns.length c5, .slice a6 nkids c6, .int .i64 cp] (.slice a5 ns.length c5) ns V → Calls Tryz.prog 333 #[.pointer (some ⟨wp, 0, none⟩), .int .i64 (ns.length : Nat), .func (.func 338) #[] #[.pointer (some ⟨b1, 0, none⟩), .pointer (some ⟨b2, 0, none⟩)]] V (PostW base wp V x)) := fun V r iv => by
      have hl : ns.length ≤ 32 := by
        unfold lstW at hx
        exact (Decidable.byContradiction (p := 1 ≤ ns.length ∧ ns.length ≤ 32) fun h => by rw [if_neg h] at hx; cases hx).2
      exact wlist_ok (caps := [.pointer (some ⟨b1, 0, none⟩), .pointer (some ⟨b2, 0, none⟩)]) (InvN b0 wp b1 b2 _ _ ns) (fun _ _ _ _ h1 h2 h3 => h3.kpo h1 h2) enters338 (fun W' s' x' i hi q1 q2 q3 => meth_part hi hl q1 q2 q3) r iv hx
    have d0 : W.cell? ⟨b2, 0, none⟩ = some (.int .i64 9) := by rw [cell_of_row _ _ _ _ _ _ B2.out]; rfl
    have d1 : W.cell? ⟨b1, 0, none⟩ = some (.pointer (some ⟨wp, 0, none⟩)) := by rw [cell_of_row _ _ _ _ _ _ B1.out]; rfl
    clear hlen0 KX hx ha
    go_enter Tryz.func302, Tryz.ntmps302
    go_upto_region 1 with fail
    rw [← hb2, ← hW, ← hb1]
    clear hW hb1 hb2
    go_upto_region 4 with (first | (go_at_call 332; refine (HT.out _).mono ?_; rintro e w1 ⟨rfl, hw⟩; have hw2 := hw.symm; clear hw; subst hw2) | (go_at_call 192; refine (HM.out _).mono ?_; rintro e w2 ⟨rfl, hw⟩; have hw2 := hw.symm; clear hw; subst hw2) | (go_at_call 248; refine HW.out.mono ?_; rintro e w3 ⟨rfl, r3, x3⟩; have R3 := hide r3; have X3 := hide x3; clear r3 x3))
    have I3 := hide (InvN.kpo RW.out X3.out HIN.out)
    have HL3 := hide (HLW.out _ R3.out I3.out)
    have e0 : w3.cell? ⟨b2, 0, none⟩ = some (.int .i64 9) := by rw [cell_of_row _ _ _ _ _ _ I3.out.2.1]; rfl
    have e4 : w3.cell? ⟨b2, 5, none⟩ = some (.slice a5 ns.length c5) := by rw [cell_of_row _ _ _ _ _ _ I3.out.2.1]; rfl
    have e1 : w3.cell? ⟨b1, 0, none⟩ = some (.pointer (some ⟨wp, 0, none⟩)) := by rw [cell_of_row _ _ _ _ _ _ I3.out.1]; rfl
    clear d0 d1 HT HW HLW
    generalize ns.length = nsp at *
    go_wp2_with (go_at_call 333; refine HL3.out.mono ?_; rintro e w4 ⟨rfl, r4, x4⟩; have R4 := hide r4; have X4 := hide x4; clear r4 x4)
    go_end0
    exact ⟨rfl, R4.out, (KpO.of_below XW.out).trans (X3.out.trans X4.out)⟩
  · obtain ⟨a, ha, hx⟩ := Option.bind_eq_some_iff.1 hx
    have HT := hide (hlen0 12 wHas rfl (by decide))
    have HW := hide (word_ok RW.out ha)
    unfold wHas at HT HW
    have HX := hide (fun V (r : WrA V base wp a.1 a.2) => text_ok r hx)
    have d0 : W.cell? ⟨b2, 0, none⟩ = some (.int .i64 12) := by rw [cell_of_row _ _ _ _ _ _ B2.out]; rfl
    have d1 : W.cell? ⟨b1, 0, none⟩ = some (.pointer (some ⟨wp, 0, none⟩)) := by rw [cell_of_row _ _ _ _ _ _ B1.out]; rfl
    clear hlen0 KX hx ha
    go_enter Tryz.func302, Tryz.ntmps302
    go_upto_region 1 with fail
    rw [← hb2, ← hW, ← hb1]
    clear hW hb1 hb2
    go_upto_region 4 with (first | (go_at_call 332; refine (HT.out _).mono ?_; rintro e w1 ⟨rfl, hw⟩; have hw2 := hw.symm; clear hw; subst hw2) | (go_at_call 192; refine (HM.out _).mono ?_; rintro e w2 ⟨rfl, hw⟩; have hw2 := hw.symm; clear hw; subst hw2) | (go_at_call 248; refine HW.out.mono ?_; rintro e w3 ⟨rfl, r3, x3⟩; have R3 := hide r3; have X3 := hide x3; clear r3 x3))
    have I3 := hide (InvS.kpo RW.out X3.out HI.out)
    have e0 : w3.cell? ⟨b2, 0, none⟩ = some (.int .i64 12) := by rw [cell_of_row _ _ _ _ _ _ I3.out.2.1]; rfl
    have e4 : w3.cell? ⟨b2, 1, none⟩ = some (.string ⟨cnm.toArray⟩) := by rw [cell_of_row _ _ _ _ _ _ I3.out.2.1]; rfl
    have e1 : w3.cell? ⟨b1, 0, none⟩ = some (.pointer (some ⟨wp, 0, none⟩)) := by rw [cell_of_row _ _ _ _ _ _ I3.out.1]; rfl
    clear d0 d1 HT HW
    go_wp2_with (go_at_call 340; refine (HX.out _ R3.out).mono ?_; rintro e w4 ⟨rfl, r4, x4⟩; have R4 := hide r4; have X4 := hide x4; clear r4 x4)
    go_end0
    exact ⟨rfl, R4.out, (KpO.of_below XW.out).trans (X3.out.trans X4.out)⟩
end Go.Proofs.YthgikaklcglpiaaGreatDoor.L9
/-
  Over, operators, holds by their contracts. Condition: a condition that is neither deep nor wide.
-/

namespace Go.Proofs.YthgikaklcglpiaaGreatDoor.L9
open Go.RowKit Go.Lib

set_option maxRecDepth 100000 in
set_option maxHeartbeats 2000000 in
theorem operators_any (w : World) : Calls Tryz.prog 300 #[] w fun e w' => e = .returned (.agg #[.string ⟨#[111, 114]⟩, .int .i64 6, .int .i64 1, .string ⟨#[97, 110, 100]⟩, .int .i64 5, .int .i64 2, .string ⟨#[110, 111, 116]⟩, .int .i64 4, .int .i64 2]) ∧ Below w.heap.size w w' := by
  have HB := hide (heap_alloc_new w (.cells #[.string ⟨#[111, 114]⟩, .int .i64 6, .int .i64 1, .string ⟨#[97, 110, 100]⟩, .int .i64 5, .int .i64 2, .string ⟨#[110, 111, 116]⟩, .int .i64 4, .int .i64 2] 289))
  have XW : Hid (Below w.heap.size w (w.alloc (.cells #[.string ⟨#[111, 114]⟩, .int .i64 6, .int .i64 1, .string ⟨#[97, 110, 100]⟩, .int .i64 5, .int .i64 2, .string ⟨#[110, 111, 116]⟩, .int .i64 4, .int .i64 2] 289))) := al (Below.refl _ _) _
  go_enter Tryz.func300, Tryz.ntmps300
  go_wp2
  generalize w.alloc (.cells #[.string ⟨#[111, 114]⟩, .int .i64 6, .int .i64 1, .string ⟨#[97, 110, 100]⟩, .int .i64 5, .int .i64 2, .string ⟨#[110, 111, 116]⟩, .int .i64 4, .int .i64 2] 289) = w9 at *
  have q0 : w9.cell? ⟨w.heap.size, 0, none⟩ = #[.string ⟨#[111, 114]⟩, .int .i64 6, .int .i64 1, .string ⟨#[97, 110, 100]⟩, .int .i64 5, .int .i64 2, .string ⟨#[110, 111, 116]⟩, .int .i64 4, .int .i64 2][0]? := by rw [cell_of_row _ _ _ _ _ _ HB.out]
  have q1 : w9.cell? ⟨w.heap.size, 1, none⟩ = #[.string ⟨#[111, 114]⟩, .int .i64 6, .int .i64 1, .string ⟨#[97, 110, 100]⟩, .int .i64 5, .int .i64 2, .string ⟨#[110, 111, 116]⟩, .int .i64 4, .int .i64 2][1]? := by rw [cell_of_row _ _ _ _ _ _ HB.out]
  have q2 : w9.cell? ⟨w.heap.size, 2, none⟩ = #[.string ⟨#[111, 114]⟩, .int .i64 6, .int .i64 1, .string ⟨#[97, 110, 100]⟩, .int .i64 5, .int .i64 2, .string ⟨#[110, 111, 116]⟩, .int .i64 4, .int .i64 2][2]? := by rw [cell_of_row _ _ _ _ _ _ HB.out]
  have q3 : w9.cell? ⟨w.heap.size, 3, none⟩ = #[.string ⟨#[111, 114]⟩, .int .i64 6, .int .i64 1, .string ⟨#[97, 110, 100]⟩, .int .i64 5, .int .i64 2, .string ⟨#[110, 111, 116]⟩, .int .i64 4, .int .i64 2][3]? := by rw [cell_of_row _ _ _ _ _ _ HB.out]
  have q4 : w9.cell? ⟨w.heap.size, 4, none⟩ = #[.string ⟨#[111, 114]⟩, .int .i64 6, .int .i64 1, .string ⟨#[97, 110, 100]⟩, .int .i64 5, .int .i64 2, .string ⟨#[110, 111, 116]⟩, .int .i64 4, .int .i64 2][4]? := by rw [cell_of_row _ _ _ _ _ _ HB.out]
  have q5 : w9.cell? ⟨w.heap.size, 5, none⟩ = #[.string ⟨#[111, 114]⟩, .int .i64 6, .int .i64 1, .string ⟨#[97, 110, 100]⟩, .int .i64 5, .int .i64 2, .string ⟨#[110, 111, 116]⟩, .int .i64 4, .int .i64 2][5]? := by rw [cell_of_row _ _ _ _ _ _ HB.out]
  have q6 : w9.cell? ⟨w.heap.size, 6, none⟩ = #[.string ⟨#[111, 114]⟩, .int .i64 6, .int .i64 1, .string ⟨#[97, 110, 100]⟩, .int .i64 5, .int .i64 2, .string ⟨#[110, 111, 116]⟩, .int .i64 4, .int .i64 2][6]? := by rw [cell_of_row _ _ _ _ _ _ HB.out]
  have q7 : w9.cell? ⟨w.heap.size, 7, none⟩ = #[.string ⟨#[111, 114]⟩, .int .i64 6, .int .i64 1, .string ⟨#[97, 110, 100]⟩, .int .i64 5, .int .i64 2, .string ⟨#[110, 111, 116]⟩, .int .i64 4, .int .i64 2][7]? := by rw [cell_of_row _ _ _ _ _ _ HB.out]
  have q8 : w9.cell? ⟨w.heap.size, 8, none⟩ = #[.string ⟨#[111, 114]⟩, .int .i64 6, .int .i64 1, .string ⟨#[97, 110, 100]⟩, .int .i64 5, .int .i64 2, .string ⟨#[110, 111, 116]⟩, .int .i64 4, .int .i64 2][8]? := by rw [cell_of_row _ _ _ _ _ _ HB.out]
  simp at q0 q1 q2 q3 q4 q5 q6 q7 q8
  refine bodyPost_ret (by simp [results, Tryz.results300, go_sem, q0, q1, q2, q3, q4, q5, q6, q7, q8]; try rfl) rfl ?_
  exact ⟨rfl, XW.out⟩
end Go.Proofs.YthgikaklcglpiaaGreatDoor.L9
/-
  Holds of the kind of a negation, the reader's not by their contracts. Condition: conditions are read so.
-/

namespace Go.Proofs.YthgikaklcglpiaaGreatDoor.L9
open Go.RowKit Go.Lib

theorem ixo0 (w : World) : (Instr.index 289 (.agg #[.string ⟨#[111, 114]⟩, .int .i64 6, .int .i64 1, .string ⟨#[97, 110, 100]⟩, .int .i64 5, .int .i64 2, .string ⟨#[110, 111, 116]⟩, .int .i64 4, .int .i64 2]) (.int .i64 0)).run Tryz.prog w = .ok (.agg #[.string ⟨#[111, 114]⟩, .int .i64 6, .int .i64 1]) w := by kernel_rfl
theorem ixo1 (w : World) : (Instr.index 289 (.agg #[.string ⟨#[111, 114]⟩, .int .i64 6, .int .i64 1, .string ⟨#[97, 110, 100]⟩, .int .i64 5, .int .i64 2, .string ⟨#[110, 111, 116]⟩, .int .i64 4, .int .i64 2]) (.int .i64 1)).run Tryz.prog w = .ok (.agg #[.string ⟨#[97, 110, 100]⟩, .int .i64 5, .int .i64 2]) w := by kernel_rfl
theorem ixo2 (w : World) : (Instr.index 289 (.agg #[.string ⟨#[111, 114]⟩, .int .i64 6, .int .i64 1, .string ⟨#[97, 110, 100]⟩, .int .i64 5, .int .i64 2, .string ⟨#[110, 111, 116]⟩, .int .i64 4, .int .i64 2]) (.int .i64 2)).run Tryz.prog w = .ok (.agg #[.string ⟨#[110, 111, 116]⟩, .int .i64 4, .int .i64 2]) w := by kernel_rfl
end Go.Proofs.YthgikaklcglpiaaGreatDoor.L9
