/-
  The writer's number, ports, and what it does with each span, where they go well. Condition: the numbers are 80, 89, 90.
-/
import Derived.Test.YthgikaklcglpiaaGreatDoorP09
namespace Go.Proofs.YthgikaklcglpiaaGreatDoor.L9
open Go.RowKit Go.Lib

def Dg3 (n : Int) : Prop := n = 80 ∨ n = 89 ∨ n = 90
def dg3 (n : Int) : By := if n = 80 then [56, 48] else if n = 89 then [56, 57] else [57, 48]
def numW (n : Int) (s : WS) : Option WS := othW (dg3 n) s
def spnW (x : Int × Int) (s : WS) : Option WS := (numW x.1 s).bind fun y => if x.2 = x.1 then some y else (othW [45] y).bind fun z => numW x.2 z
set_option maxRecDepth 100000 in
theorem small_any {n : Int} (hn : Dg3 n) (w : World) : Calls Tryz.prog 372 #[.int .i64 n] w fun e w' => e = .returned (.string ⟨(dg3 n).toArray⟩) ∧ Below w.heap.size w w' := by
  rcases hn with rfl | rfl | rfl
  all_goals
    go_enter Tryz.func372, Tryz.ntmps372
    go_wp2
    go_ret
    exact ⟨rfl, Below.refl _ _⟩
set_option maxRecDepth 100000 in
theorem format_any {n : Int} (hn : Dg3 n) (w : World) : Calls Tryz.prog 371 #[.int .i64 n, .int .i64 10] w fun e w' => e = .returned (.string ⟨(dg3 n).toArray⟩) ∧ Below w.heap.size w w' := by
  have HS := hide (small_any hn w)
  have h1 : 0 ≤ n := by rcases hn with h | h | h <;> omega
  have h2 : n < 100 := by rcases hn with h | h | h <;> omega
  clear hn
  go_enter Tryz.func371, Tryz.ntmps371
  go_wp2_with (go_at_call 372; refine HS.out.mono ?_; rintro e w1 ⟨rfl, x1⟩; have X1 := hide x1; clear x1)
  go_ret
  exact ⟨rfl, X1.out⟩
set_option maxRecDepth 100000 in
theorem itoaI_any {n : Int} (hn : Dg3 n) (w : World) : Calls Tryz.prog 369 #[.int .i64 n] w fun e w' => e = .returned (.string ⟨(dg3 n).toArray⟩) ∧ Below w.heap.size w w' := by
  have HS := hide (format_any hn w)
  clear hn
  go_enter Tryz.func369, Tryz.ntmps369
  go_wp2_with (go_at_call 371; refine HS.out.mono ?_; rintro e w1 ⟨rfl, x1⟩; have X1 := hide x1; clear x1)
  go_ret
  exact ⟨rfl, X1.out⟩
set_option maxRecDepth 100000 in
theorem itoa_any {n : Int} (hn : Dg3 n) (w : World) : Calls Tryz.prog 364 #[.int .i64 n] w fun e w' => e = .returned (.string ⟨(dg3 n).toArray⟩) ∧ Below w.heap.size w w' := by
  have HS := hide (itoaI_any hn w)
  clear hn
  go_enter Tryz.func364, Tryz.ntmps364
  go_wp2_with (go_at_call 369; refine HS.out.mono ?_; rintro e w1 ⟨rfl, x1⟩; have X1 := hide x1; clear x1)
  go_ret
  exact ⟨rfl, X1.out⟩
set_option maxHeartbeats 1000000 in
set_option maxRecDepth 100000 in
theorem number_ok {w : World} {base wp : Nat} {s : WS} {n : Int} {x : WS} (hn : Dg3 n) (h : WrA w base wp s.1 s.2) (hx : numW n s = some x) : Calls Tryz.prog 359 #[.pointer (some ⟨wp, 0, none⟩), .int .i64 n] w (PostW base wp w x) := by
  have HI := hide (itoa_any hn w)
  have HM := hide must_ok
  have HO := hide (fun w1 (y : Below w.heap.size w w1) => other_ok (h.below y) hx)
  have h1 : 0 ≤ n := by rcases hn with h | h | h <;> omega
  have h2 : n ≤ 4294967295 := by rcases hn with h | h | h <;> omega
  clear hn h hx
  go_enter Tryz.func359, Tryz.ntmps359
  go_upto_region 1 with (go_at_call 192; refine (HM.out _).mono ?_; rintro e w2 ⟨rfl, hw⟩; subst hw)
  go_wp2_with (first | (go_at_call 364; refine HI.out.mono ?_; rintro e w1 ⟨rfl, x1⟩; have X1 := hide x1; clear x1) | (go_at_call 250; refine (HO.out _ X1.out).mono ?_; rintro e w3 ⟨rfl, r3, x3⟩; have R3 := hide r3; have X3 := hide x3; clear r3 x3))
  go_end0
  exact ⟨rfl, R3.out, (KpO.of_below X1.out).trans X3.out⟩
set_option maxHeartbeats 2000000 in
set_option maxRecDepth 100000 in
theorem ports_ok {w : World} {base wp : Nat} {s : WS} {z : Int × Int} {x : WS} (h1 : Dg3 z.1) (h2 : Dg3 z.2) (h : WrA w base wp s.1 s.2) (hx : spnW z s = some x) : Calls Tryz.prog 337 #[.pointer (some ⟨wp, 0, none⟩), .agg #[.int .i64 z.1, .int .i64 z.2]] w (PostW base wp w x) := by
  obtain ⟨lo, hi⟩ := z
  simp only at h1 h2 ⊢
  unfold spnW at hx
  obtain ⟨y, hy, hx⟩ := Option.bind_eq_some_iff.1 hx
  simp only at hy hx
  have XW : Hid (Below w.heap.size w (w.alloc (.cells #[.int .i64 lo, .int .i64 hi] 75))) := al (Below.refl _ _) _
  have HP := hide (heap_alloc_new w (.cells #[.int .i64 lo, .int .i64 hi] 75))
  have HN1 := hide (number_ok h1 (h.below XW.out) hy)
  have HNE := hide ((h.below XW.out).ne HP.out (by decide))
  have HXX := hide hx
  have HD2 := hide h2
  clear h1 h2 h hy hx
  obtain ⟨P, hP⟩ : ∃ P, P = w.heap.size := ⟨_, rfl⟩
  have q0 : (w.alloc (.cells #[.int .i64 lo, .int .i64 hi] 75)).cell? ⟨P, 0, none⟩ = some (.int .i64 lo) := by rw [hP]; simp
  go_enter Tryz.func337, Tryz.ntmps337
  go_upto_region 1 with fail
  rw [← hP] at HP HNE ⊢
  clear hP
  generalize w.alloc (.cells #[.int .i64 lo, .int .i64 hi] 75) = W at *
  go_upto_region 2 with (go_at_call 359; refine HN1.out.mono ?_; rintro e w1 ⟨rfl, r1, x1⟩; have R1 := hide r1; have X1 := hide x1; clear r1 x1)
  clear HN1 q0
  have HP1 := hide (X1.out.box HP.out (by decide) HNE.out)
  have q0 : w1.cell? ⟨P, 0, none⟩ = some (.int .i64 lo) := by rw [cell_of_row _ _ _ _ _ _ HP1.out]; rfl
  have q1 : w1.cell? ⟨P, 1, none⟩ = some (.int .i64 hi) := by rw [cell_of_row _ _ _ _ _ _ HP1.out]; rfl
  by_cases he : hi = lo
  · subst he
    have HX2 := HXX.out
    rw [if_pos rfl] at HX2
    obtain rfl := Option.some.inj HX2
    have hb : (hi != hi) = false := by simp
    clear HX2 HXX
    go_wp2
    go_end0
    exact ⟨rfl, R1.out, (KpO.of_below XW.out).trans X1.out⟩
  · have HX2 := HXX.out
    rw [if_neg he] at HX2
    obtain ⟨z, hz, hx⟩ := Option.bind_eq_some_iff.1 HX2
    have HO := hide (other_ok R1.out hz)
    have HN := hide (fun w2 (r : WrA w2 base wp z.1 z.2) => number_ok HD2.out r hx)
    have hb : (hi != lo) = true := by simpa using he
    clear HX2 HXX he hz hx
    go_upto_region 4 with (go_at_call 250; refine HO.out.mono ?_; rintro e w2 ⟨rfl, r2, x2⟩; have R2 := hide r2; have X2 := hide x2; clear r2 x2)
    clear HO q0 q1
    have HP2 := hide (X2.out.box HP1.out (by decide) HNE.out)
    have q1 : w2.cell? ⟨P, 1, none⟩ = some (.int .i64 hi) := by rw [cell_of_row _ _ _ _ _ _ HP2.out]; rfl
    go_wp2_with (go_at_call 359; refine (HN.out _ R2.out).mono ?_; rintro e w3 ⟨rfl, r3, x3⟩; have R3 := hide r3; have X3 := hide x3; clear r3 x3)
    go_end0
    exact ⟨rfl, R3.out, (KpO.of_below XW.out).trans (X1.out.trans (X2.out.trans X3.out))⟩
end Go.Proofs.YthgikaklcglpiaaGreatDoor.L9
/-
  Depth, over, operators, holds by their contracts. Condition: a condition that is neither deep nor wide.
-/

namespace Go.Proofs.YthgikaklcglpiaaGreatDoor.L9
open Go.RowKit Go.Lib

theorem ld8 {W : World} {P : Nat} {t : TypeId} {f : Nat × Nat} {y0 y1 y2 y3 y4 y5 y6 y7 : Value} (h : W.heap[P]? = some (.cells #[y0, y1, y2, y3, y4, y5, y6, y7] t f)) : W.cell? ⟨P, 0, none⟩ = some y0 ∧ W.cell? ⟨P, 1, none⟩ = some y1 ∧ W.cell? ⟨P, 2, none⟩ = some y2 ∧ W.cell? ⟨P, 3, none⟩ = some y3 ∧ W.cell? ⟨P, 4, none⟩ = some y4 ∧ W.cell? ⟨P, 5, none⟩ = some y5 ∧ W.cell? ⟨P, 6, none⟩ = some y6 ∧ W.cell? ⟨P, 7, none⟩ = some y7 :=
  ⟨by rw [cell_of_row _ _ _ _ _ _ h]; rfl, by rw [cell_of_row _ _ _ _ _ _ h]; rfl, by rw [cell_of_row _ _ _ _ _ _ h]; rfl, by rw [cell_of_row _ _ _ _ _ _ h]; rfl, by rw [cell_of_row _ _ _ _ _ _ h]; rfl, by rw [cell_of_row _ _ _ _ _ _ h]; rfl, by rw [cell_of_row _ _ _ _ _ _ h]; rfl, by rw [cell_of_row _ _ _ _ _ _ h]; rfl⟩
/-- The eight cells one by one. -/
theorem CtAt.eight {w : World} {base : Nat} {c : CT} {vs : List Value} {bs : List Nat} (h : CtAt w base c vs bs) : ∃ a3 c3 a4 c4 a5 c5 a6 c6, vs = [.int .i64 c.k, .string ⟨c.nm.toArray⟩, .string ⟨c.tx.toArray⟩, .slice a3 c.pre.length c3, .slice a4 c.sp.length c4, .slice a5 c.ns.length c5, .slice a6 c.kids.length c6, .int .i64 c.p] := by
  cases c with
  | mk k nm tx pre sp ns kids p =>
    unfold CtAt at h
    obtain ⟨v3, v4, v5, v6, cs, ks, h1, h2, h3, h4, h5, _⟩ := h
    obtain ⟨a3, c3, e3, _⟩ := own_shape h2
    obtain ⟨a4, c4, e4, _⟩ := own_shape h3
    obtain ⟨a5, c5, e5, _⟩ := own_shape h4
    obtain ⟨a6, c6, e6, _⟩ := own_shape h5
    exact ⟨a3, c3, a4, c4, a5, c5, a6, c6, by rw [h1, e3, e4, e5, e6]; rfl⟩
theorem KidsAt.len {w : World} {base : Nat} : ∀ {l : List CT} {cs : List Value} {ks : List Nat}, KidsAt w base l cs ks → cs.length = l.length * 8
  | [], cs, ks, h => by
    obtain ⟨h1, _⟩ := h
    rw [h1]; rfl
  | c :: l, cs, ks, h => by
    obtain ⟨vs, bs, cs', ks', h1, h2, h3, h4⟩ := h
    rw [h1, List.length_append, h3.len, KidsAt.len h4, List.length_cons]
    omega
theorem KidsAt.get {w : World} {base : Nat} : ∀ {l : List CT} {cs : List Value} {ks : List Nat} (_ : KidsAt w base l cs ks) (i : Nat) (hi : i < l.length), ∃ vs bs, CtAt w base l[i] vs bs ∧ (∀ r, r < 8 → cs[i * 8 + r]? = vs[r]?) ∧ ∀ k ∈ bs, k ∈ ks
  | [], cs, ks, h, i, hi => by simp at hi
  | c :: l, cs, ks, h, 0, hi => by
    obtain ⟨vs, bs, cs', ks', h1, h2, h3, h4⟩ := h
    refine ⟨vs, bs, h3, fun r hr => ?_, fun k hk => by rw [h2]; simp [hk]⟩
    rw [h1, List.getElem?_append_left (by rw [h3.len]; omega), Nat.zero_mul, Nat.zero_add]
  | c :: l, cs, ks, h, i + 1, hi => by
    obtain ⟨vs, bs, cs', ks', h1, h2, h3, h4⟩ := h
    obtain ⟨vs2, bs2, q1, q2, q3⟩ := KidsAt.get h4 i (by simpa using hi)
    refine ⟨vs2, bs2, q1, fun r hr => ?_, fun k hk => by rw [h2]; simp [q3 k hk]⟩
    rw [h1, List.getElem?_append_right (by rw [h3.len]; omega), h3.len, show (i + 1) * 8 + r - 8 = i * 8 + r by omega]
    exact q2 r hr
end Go.Proofs.YthgikaklcglpiaaGreatDoor.L9
/-
  The writer's list, whatever writes its parts; what it does with each span. Condition: that keeps its own contract.
-/

namespace Go.Proofs.YthgikaklcglpiaaGreatDoor.L9
open Go.RowKit Go.Lib

mutual
theorem CtAt.ty {w : World} {base : Nat} : ∀ {c : CT} {vs : List Value} {bs : List Nat}, CtAt w base c vs bs → ∀ k ∈ bs, ∃ cs t f, w.heap[k]? = some (.cells cs t f) ∧ t ≠ 5 ∧ t ≠ 211
  | .mk k nm tx pre sp ns kids p, vs, bs, h => by
    unfold CtAt at h
    obtain ⟨v3, v4, v5, v6, cs, ks, h1, h2, h3, h4, h5, h6, h7⟩ := h
    intro j hj
    rw [h7] at hj
    simp only [List.mem_append, mem_blk] at hj
    rcases hj with hj | hj | hj | hj | hj
    · obtain ⟨c, hc⟩ := own_ty h2 j hj
      exact ⟨c, _, _, hc, by decide, by decide⟩
    · obtain ⟨c, hc⟩ := own_ty h3 j hj
      exact ⟨c, _, _, hc, by decide, by decide⟩
    · obtain ⟨c, hc⟩ := own_ty h4 j hj
      exact ⟨c, _, _, hc, by decide, by decide⟩
    · obtain ⟨c, hc⟩ := own_ty h5 j hj
      exact ⟨c, _, _, hc, by decide, by decide⟩
    · exact KidsAt.ty h6 j hj
theorem KidsAt.ty {w : World} {base : Nat} : ∀ {l : List CT} {cs : List Value} {ks : List Nat}, KidsAt w base l cs ks → ∀ k ∈ ks, ∃ cs t f, w.heap[k]? = some (.cells cs t f) ∧ t ≠ 5 ∧ t ≠ 211
  | [], cs, ks, h => by
    obtain ⟨_, rfl⟩ := h
    intro k hk
    cases hk
  | c :: l, cs, ks, h => by
    obtain ⟨vs, bs, cs', ks', h1, h2, h3, h4⟩ := h
    intro k hk
    rw [h2, List.mem_append] at hk
    rcases hk with hk | hk
    · exact CtAt.ty h3 k hk
    · exact KidsAt.ty h4 k hk
end
theorem CtAt.kpo {w w' : World} {base b0 wp : Nat} {c : CT} {vs : List Value} {bs : List Nat} {s : By} {pt : Bool} (h : CtAt w b0 c vs bs) (hw : WrA w base wp s pt) (k : KpO 5 base wp w w') : CtAt w' b0 c vs bs := by
  refine CtAt.kept k c vs bs h (fun j hj hf => ?_)
  obtain ⟨cs, t, f, h1, h2, h3⟩ := CtAt.ty h j hj
  rcases hf with e | ⟨_, c', f', e⟩
  · exact hw.ne h1 h3 e
  · rw [h1] at e
    injection e with e
    injection e with _ e _
    exact h2 e
theorem KpO.ownS {base b0 wp size n : Nat} {w w' : World} {e : TypeId} {v : Value} {xs : List Value} {s : By} {pt : Bool} (h : KpO 5 base wp w w') (ho : w.ownsRow b0 e size v n xs) (he : e ≠ 5 ∧ e ≠ 211) (hw : WrA w base wp s pt) : w'.ownsRow b0 e size v n xs :=
  KpO.own h ho he.1 (fun k hk e' => by
    obtain ⟨c, hc⟩ := own_ty ho k hk
    exact hw.ne hc he.2 e')
def partsI (part : Nat → WS → Option WS) : Nat → Nat → WS → Option WS
  | 0, _, s => some s
  | k + 1, i, s => (if i = 0 then some s else othW [44] s).bind fun a => (part i a).bind fun b => partsI part k (i + 1) b
def lstW (part : Nat → WS → Option WS) (n : Nat) (s : WS) : Option WS := if 1 ≤ n ∧ n ≤ 32 then (wrdW wIn s).bind fun a => (othW [123] a).bind fun b => (partsI part n 0 b).bind fun c => othW [125] c else none
set_option maxRecDepth 100000 in
set_option maxHeartbeats 4000000 in
theorem wlist_ok {w : World} {base wp : Nat} {s x : WS} {n : Nat} {part : Nat → WS → Option WS} {cl : Nat} {caps : List Value} (I : World → Prop) (hI : ∀ a b s pt, WrA a base wp s pt → KpO 5 base wp a b → I a → I b) (hE : ∀ args w, (callFunc cl args).run Tryz.prog w = .ok (.enter cl args) w)
    (hc : ∀ (W : World) (s x : WS) (i : Nat), i < n → WrA W base wp s.1 s.2 → I W → part i s = some x → Calls Tryz.prog cl (.int .i64 (i : Nat) :: caps).toArray W (PostW base wp W x))
    (h : WrA w base wp s.1 s.2) (hI0 : I w) (hx : lstW part n s = some x) : Calls Tryz.prog 333 #[.pointer (some ⟨wp, 0, none⟩), .int .i64 (n : Nat), .func (.func cl) #[] caps.toArray] w (PostW base wp w x) := by
  unfold lstW at hx
  have hn : 1 ≤ n ∧ n ≤ 32 := Decidable.byContradiction fun h => by rw [if_neg h] at hx; cases hx
  rw [if_pos hn] at hx
  obtain ⟨a, ha, hx⟩ := Option.bind_eq_some_iff.1 hx
  obtain ⟨b, hb, hx⟩ := Option.bind_eq_some_iff.1 hx
  obtain ⟨c, hcc, hx⟩ := Option.bind_eq_some_iff.1 hx
  have HM := hide must_ok
  have h1 : (1 : Int) ≤ (n : Int) := by omega
  have h2 : (n : Int) ≤ 32 := by omega
  have HW := hide (word_ok h ha)
  have HO := hide (fun w1 (r : WrA w1 base wp a.1 a.2) => other_ok r hb)
  have HF := hide (fun w1 (r : WrA w1 base wp c.1 c.2) => other_ok r hx)
  have HC := hide hc
  have HI := hide hI
  have I0 := hide hI0
  have R0 := hide h
  have HPI := hide hcc
  have HNN := hide hn
  clear hx ha hb hcc hc hI hI0 h hn
  go_enter Tryz.func333, Tryz.ntmps333
  go_upto_region 1 with (go_at_call 192; refine (HM.out _).mono ?_; rintro e w2 ⟨rfl, hw⟩; have hw2 := hw.symm; clear hw; subst hw2)
  have hwn : (⟨wIn.toArray⟩ : ByteArray) = ⟨#[105, 110]⟩ := rfl
  rw [hwn] at HW
  go_upto_region 2 with (go_at_call 248; refine HW.out.mono ?_; rintro e w1 ⟨rfl, r1, x1⟩; have R1 := hide r1; have X1 := hide x1; clear r1 x1)
  clear HW h1 h2
  go_upto_region 3 with (go_at_call 250; refine (HO.out _ R1.out).mono ?_; rintro e w2 ⟨rfl, r2, x2⟩; have R2 := hide r2; have X2 := hide (X1.out.trans x2); clear r2 x2)
  have I2 := hide (HI.out _ _ _ _ R0.out X2.out I0.out)
  clear HO R1 X1
  go_wp2
  go_loopg [6, 19] (n + 1) (fun gg x6 x19 wr => ∃ (k i : Nat) (y : WS), x19 = .int .i64 (i : Nat) ∧ i + k = n ∧ Hid (partsI part k i y = some c) ∧ Hid (WrA wr base wp y.1 y.2) ∧ Hid (I wr) ∧ Hid (KpO 5 base wp w wr) ∧ k < gg)
  case atStart => exact ⟨n, 0, b, rfl, by omega, HPI, R2, I2, X2, by omega⟩
  case round =>
    clear HPI R2 I2 X2 R0 I0
    obtain ⟨k, i, y, rfl, hik, HP, RR, IR, XR, hg⟩ := hrel
    have HG := hide hg
    have HIK := hide hik
    clear hg hik
    cases k with
    | zero =>
      have hlt : ¬ (i : Int) < (n : Int) := by have := HIK.out; omega
      obtain rfl : y = c := Option.some.inj HP.out
      go_wp2_with (go_at_call 250; refine (HF.out _ RR.out).mono ?_; rintro e w3 ⟨rfl, r3, x3⟩; have R3 := hide r3; have X3 := hide (XR.out.trans x3); clear r3 x3)
      go_end0
      exact ⟨rfl, R3.out, X3.out⟩
    | succ k =>
      have hlt : (i : Int) < (n : Int) := by have := HIK.out; omega
      obtain ⟨a1, ha1, hx1⟩ := Option.bind_eq_some_iff.1 HP.out
      obtain ⟨b1, hb1, hx1⟩ := Option.bind_eq_some_iff.1 hx1
      have HX1 := hide hx1
      have fw : IntKind.i64.wrap ((i : Int) + 1) = ((i + 1 : Nat) : Int) := by have := HNN.out; have := HIK.out; simp [IntKind.wrap, IntKind.bits, IntKind.signed]; omega
      have HCC := hide (fun w1 (r : WrA w1 base wp a1.1 a1.2) (j : I w1) => HC.out w1 a1 b1 i (by have := HIK.out; omega) r j hb1)
      clear hx1 hb1 HP
      by_cases h0 : i = 0
      · subst h0
        rw [if_pos rfl] at ha1
        obtain rfl := Option.some.inj ha1
        clear ha1
        have hgt : ¬ ((0 : Nat) : Int) > 0 := by omega
        go_wp2_with (fail)
        refine (HCC.out _ RR.out IR.out).mono ?_
        rintro e w3 ⟨rfl, r3, x3⟩
        have R3 := hide r3
        have I3 := hide (HI.out _ _ _ _ RR.out x3 IR.out)
        have X3 := hide (XR.out.trans x3)
        clear r3 x3
        go_wp2
        go_roundg (k + 1)
        case measure => have := HG.out; omega
        case rel => exact ⟨k, 0 + 1, b1, by first | rfl | (rw [show wrap64 (((0 : Nat) : Int) + 1) = ((0 + 1 : Nat) : Int) from fw]), by have := HIK.out; omega, HX1, R3, I3, X3, by omega⟩
      · rw [if_neg h0] at ha1
        have hgt : (0 : Int) < (i : Int) := by omega
        have HO := hide (fun w1 (r : WrA w1 base wp y.1 y.2) => other_ok r ha1)
        clear ha1
        go_upto_region 8 with (go_at_call 250; refine (HO.out _ RR.out).mono ?_; rintro e w2 ⟨rfl, r2, x2⟩; have R2 := hide r2; have X2 := hide x2; clear r2 x2)
        have I2 := hide (HI.out _ _ _ _ RR.out X2.out IR.out)
        go_wp2_with (fail)
        refine (HCC.out _ R2.out I2.out).mono ?_
        rintro e w3 ⟨rfl, r3, x3⟩
        have R3 := hide r3
        have I3 := hide (HI.out _ _ _ _ R2.out x3 I2.out)
        have X3 := hide (XR.out.trans (X2.out.trans x3))
        clear r3 x3
        go_wp2
        go_roundg (k + 1)
        case measure => have := HG.out; omega
        case rel => exact ⟨k, i + 1, b1, by first | rfl | (rw [show wrap64 ((i : Int) + 1) = ((i + 1 : Nat) : Int) from fw]), by have := HIK.out; omega, HX1, R3, I3, X3, by omega⟩
end Go.Proofs.YthgikaklcglpiaaGreatDoor.L9
/-
  The writer's test of true, false and port, where it goes well. Condition: the numbers are 1, 9, 80.
-/

namespace Go.Proofs.YthgikaklcglpiaaGreatDoor.L9
open Go.RowKit Go.Lib

theorem prC_get (L : List (Int × Int)) (i : Nat) (hi : i < L.length) : (prC L)[i * 2]? = some (.int .i64 L[i].1) ∧ (prC L)[i * 2 + 1]? = some (.int .i64 L[i].2) := by
  induction L generalizing i with
  | nil => simp at hi
  | cons x L ih =>
    have e : prC (x :: L) = .int .i64 x.1 :: .int .i64 x.2 :: prC L := rfl
    rw [e]
    cases i with
    | zero => exact ⟨rfl, rfl⟩
    | succ i =>
      obtain ⟨h1, h2⟩ := ih i (by simpa using hi)
      rw [show (i + 1) * 2 = i * 2 + 1 + 1 by omega]
      exact ⟨h1, h2⟩
/-- What the function that writes a span sees. -/
def InvS (b0 wp b1 b2 : Nat) (vs : Array Value) (v4 : Value) (sp : List (Int × Int)) (W : World) : Prop := W.heap[b1]? = some (.cells #[.pointer (some ⟨wp, 0, none⟩)] 260 (0, 0)) ∧ W.heap[b2]? = some (.cells vs 27 (0, 0)) ∧ W.ownsRow b0 75 2 v4 sp.length (prC sp)
theorem InvS.kpo {b0 wp b1 b2 base : Nat} {vs : Array Value} {v4 : Value} {sp : List (Int × Int)} {a b : World} {s : By} {pt : Bool} (hw : WrA a base wp s pt) (k : KpO 5 base wp a b) (h : InvS b0 wp b1 b2 vs v4 sp a) : InvS b0 wp b1 b2 vs v4 sp b :=
  ⟨k.box h.1 (by decide) (hw.ne h.1 (by decide)), k.box h.2.1 (by decide) (hw.ne h.2.1 (by decide)), k.ownS h.2.2 (by decide) hw⟩
set_option maxRecDepth 100000 in
set_option maxHeartbeats 2000000 in
theorem part_ok {W : World} {base wp b0 b1 b2 : Nat} {x0 x1 x2 x3 x5 x6 x7 v4 : Value} {sp : List (Int × Int)} {i : Nat} {s x : WS} (hi : i < sp.length) (hl : sp.length ≤ 32) (h : WrA W base wp s.1 s.2) (hI : InvS b0 wp b1 b2 #[x0, x1, x2, x3, v4, x5, x6, x7] v4 sp W) (hd : ∀ z ∈ sp, Dg3 z.1 ∧ Dg3 z.2) (hx : spnW (sp.getD i (0, 0)) s = some x) :
    Calls Tryz.prog 336 #[.int .i64 (i : Nat), .pointer (some ⟨b1, 0, none⟩), .pointer (some ⟨b2, 0, none⟩)] W (PostW base wp W x) := by
  obtain ⟨h1, h2, h3⟩ := hI
  have hz : sp.getD i (0, 0) = sp[i] := by rw [List.getD_eq_getElem?_getD, List.getElem?_eq_getElem hi]; rfl
  rw [hz] at hx
  obtain ⟨g1, g2⟩ := hd _ (List.getElem_mem hi)
  obtain ⟨a4, c4, hv, hav⟩ := own_shape h3
  obtain ⟨g, hg⟩ := hav (by omega)
  subst hg
  subst hv
  have hlt : (i : Int) < (sp.length : Int) := by omega
  obtain ⟨p1, p2⟩ := prC_get sp i hi
  have c1 : W.cell? ⟨g, i * 2, none⟩ = some (.int .i64 sp[i].1) := by rw [World.ownsRow.cellAt h3 (i * 2) (by omega)]; exact p1
  have c2 : W.cell? ⟨g, i * 2 + 1, none⟩ = some (.int .i64 sp[i].2) := by rw [World.ownsRow.cellAt h3 (i * 2 + 1) (by omega)]; exact p2
  have c3 : W.cell? ⟨b1, 0, none⟩ = some (.pointer (some ⟨wp, 0, none⟩)) := by rw [cell_of_row _ _ _ _ _ _ h1]; rfl
  have c4' : W.cell? ⟨b2, 4, none⟩ = some (.slice (some ⟨g, 0, none⟩) sp.length c4) := by rw [cell_of_row _ _ _ _ _ _ h2]; rfl
  have HP := hide (fun (z : Int × Int) (e : z = sp[i]) (V : World) (y : Below W.heap.size W V) => ports_ok (z := z) (x := x) (by rw [e]; exact g1) (by rw [e]; exact g2) (h.below y) (by rw [e]; exact hx))
  obtain ⟨z, hzz⟩ : ∃ z, z = sp[i] := ⟨_, rfl⟩
  rw [← hzz] at c1 c2
  have HZ := hide hzz
  have HPP := hide (HP.out z hzz)
  have HS0 : Hid ((W.drew.cell? ⟨g, i * 2, none⟩ = some (.int .i64 z.1) ∧ W.drew.cell? ⟨g, i * 2 + 1, none⟩ = some (.int .i64 z.2) ∧ W.drew.cell? ⟨b1, 0, none⟩ = some (.pointer (some ⟨wp, 0, none⟩)) ∧ W.drew.cell? ⟨b2, 4, none⟩ = some (.slice (some ⟨g, 0, none⟩) sp.length c4))) := ⟨c1, c2, c3, c4'⟩
  clear h1 h2 h3 hz hx g1 g2 hav p1 p2 c1 c2 c3 c4' h HP hzz HZ hd hi
  have XD : Hid (Below W.heap.size W W.drew) := (Below.refl _ _).drew
  generalize sp.length = n at *
  go_enter Tryz.func336, Tryz.ntmps336
  refine wp_unt (S := fun V => V.cell? ⟨g, i * 2, none⟩ = some (.int .i64 z.1) ∧ V.cell? ⟨g, i * 2 + 1, none⟩ = some (.int .i64 z.2) ∧ V.cell? ⟨b1, 0, none⟩ = some (.pointer (some ⟨wp, 0, none⟩)) ∧ V.cell? ⟨b2, 4, none⟩ = some (.slice (some ⟨g, 0, none⟩) n c4)) 6 (by kernel_rfl) ?_
  refine UntH.take (i := 0) (some 4) rfl rfl (by kernel_rfl) (by kernel_rfl) (by kernel_rfl) (by kernel_rfl) (fun _ _ _ _ h => h) (by rfl) HS0.out ?_
  apply Exists.intro
  refine ⟨fun w' hw' => ?_, ?_⟩
  · obtain ⟨q1, q2, q3, q4⟩ := hw'
    go_simp
    first | done | rfl
  try simp only [Act.put, List.setIfInBounds_toArray, List.set_cons_zero, List.set_cons_succ]
  refine UntH.take (i := 1) (some 5) rfl rfl (by kernel_rfl) (by kernel_rfl) (by kernel_rfl) (by kernel_rfl) (fun _ _ _ _ h => h) (by rfl) HS0.out ?_
  apply Exists.intro
  refine ⟨fun w' hw' => ?_, ?_⟩
  · obtain ⟨q1, q2, q3, q4⟩ := hw'
    go_simp
    first | done | rfl
  try simp only [Act.put, List.setIfInBounds_toArray, List.set_cons_zero, List.set_cons_succ]
  refine UntH.take (i := 2) (some 6) rfl rfl (by kernel_rfl) (by kernel_rfl) (by kernel_rfl) (by kernel_rfl) (fun _ _ _ _ h => h) (by rfl) HS0.out ?_
  apply Exists.intro
  refine ⟨fun w' hw' => ?_, ?_⟩
  · obtain ⟨q1, q2, q3, q4⟩ := hw'
    go_simp
    first | done | rfl
  try simp only [Act.put, List.setIfInBounds_toArray, List.set_cons_zero, List.set_cons_succ]
  refine UntH.take (i := 3) (some 7) rfl rfl (by kernel_rfl) (by kernel_rfl) (by kernel_rfl) (by kernel_rfl) (fun _ _ _ _ h => h) (by rfl) HS0.out ?_
  apply Exists.intro
  refine ⟨fun w' hw' => ?_, ?_⟩
  · obtain ⟨q1, q2, q3, q4⟩ := hw'
    go_simp
    first | done | rfl
  try simp only [Act.put, List.setIfInBounds_toArray, List.set_cons_zero, List.set_cons_succ]
  refine UntH.take (i := 4) (some 8) rfl rfl (by kernel_rfl) (by kernel_rfl) (by kernel_rfl) (by kernel_rfl) (fun _ _ _ _ h => h) (by rfl) HS0.out ?_
  apply Exists.intro
  refine ⟨fun w' hw' => ?_, ?_⟩
  · obtain ⟨q1, q2, q3, q4⟩ := hw'
    go_simp
    first | done | rfl
  try simp only [Act.put, List.setIfInBounds_toArray, List.set_cons_zero, List.set_cons_succ]
  refine UntH.take (i := 5) (some 9) rfl rfl (by kernel_rfl) (by kernel_rfl) (by kernel_rfl) (by kernel_rfl) (fun _ _ _ _ h => h) (by rfl) HS0.out ?_
  apply Exists.intro
  refine ⟨fun w' hw' => ?_, ?_⟩
  · obtain ⟨q1, q2, q3, q4⟩ := hw'
    go_simp
    first | done | rfl
  try simp only [Act.put, List.setIfInBounds_toArray, List.set_cons_zero, List.set_cons_succ]
  refine UntH.last (by kernel_rfl) rfl (by kernel_rfl) (by kernel_rfl) (fun K hK => ?_)
  go_simp
  refine (HPP.out _ XD.out).mono ?_
  rintro e w3 ⟨rfl, r3, x3⟩
  refine hK _ _ ?_
  have R3 := hide r3
  have X3 := hide x3
  clear hK K r3 x3
  go_wp2
  go_end0
  exact ⟨rfl, R3.out, (KpO.of_below XD.out).trans X3.out⟩
end Go.Proofs.YthgikaklcglpiaaGreatDoor.L9
