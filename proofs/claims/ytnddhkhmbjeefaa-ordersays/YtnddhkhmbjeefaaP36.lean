/-
  moves$1, behind, as an iterator. Conditions: at most 7 levels of at most 4 classes, at most 4095 functions.
-/
import Derived.Test.YtnddhkhmbjeefaaP34
import Derived.Test.YtnddhkhmbjeefaaP35
namespace Go.Proofs.Ytnddhkhmbjeefaa
open Go.RowKit Go.Lib Go.Maps
attribute [local go_sem] Oper.semAt_some

section
variable {S : List Int} {F : List Phi} {R : List Int} {ra : Option Addr} {rc b lb lc : Nat} {Ls : List LA} {E : List Int} {v most : Int} {p : Nat}
set_option maxRecDepth 100000 in
set_option maxHeartbeats 4000000 in
theorem movesB_it (hS : SzOk S) (hm : Sml S F) (G : GD S F R (layL Ls)) (ho : ordL Ls = mv E v p) (hp : p ≤ E.length) (hm1 : -1 ≤ most) (h8 : most ≤ 8192) :
    ItC 89 #[.pointer (some ⟨b, 0, none⟩), .pointer (some ⟨b + 1, 0, none⟩), .pointer (some ⟨b + 2, 0, none⟩), .pointer (some ⟨b + 3, 0, none⟩)] (encD ra rc R) (PxD S F ra R (fun k => mv E v (p + (k + 1)))) (SBh S F R most E v p) (fun Q w => Mv9 w Q b ra rc R lb lc Ls p 1 most) := by
  intro l J Q w hJ hY h0 hO
  have hEl : E.length + 1 = Ls.length := by
    have := congrArg List.length ho
    rw [ordL_length, mv_length] at this
    exact this.symm
  have h7 : E.length + 1 ≤ 7 := by have h1 := G.len; have h2 := hm.len; rw [List.length_map] at h1; omega
  have X1 : Hid (Below w.heap.size w (w.alloc (.cells #[.slice ra R.length rc, .slice (some ⟨lb, 0, none⟩) Ls.length lc] 70))) := al (Below.refl _ _) _
  have ST : Hid (MvI w (w.alloc (.cells #[.slice ra R.length rc, .slice (some ⟨lb, 0, none⟩) Ls.length lc] 70)) w.heap.size b ra rc R lb lc Ls p 1 most S F (fun k => mv E v (p + (k + 1))) J [] Q ⟨lb, lc, Ls⟩ (mv E v p)) := MvI.start hJ h0 hO G ho
  have d0 : w.cell? ⟨b, 0, none⟩ = some (.slice ra R.length rc) := by rw [cell_of_row w _ _ _ _ _ hO.b0]; rfl
  have d1 : w.cell? ⟨b, 1, none⟩ = some (.slice (some ⟨lb, 0, none⟩) Ls.length lc) := by rw [cell_of_row w _ _ _ _ _ hO.b0]; rfl
  have HJ := hide hJ
  have HY := hide hY
  have HM := hide hm
  have HS := hide hS
  have HPW := hide hO.lt
  have HEL := hide hEl
  clear hJ hY h0 hO hm hS G ho hEl
  go_enter Try.func89, Try.ntmps89
  go_upto_region 1 with fail
  clear d0 d1
  generalize w.alloc (.cells #[.slice ra R.length rc, .slice (some ⟨lb, 0, none⟩) Ls.length lc] 70) = w1 at *
  obtain ⟨c1, c2, c3, c4⟩ := ST.out.cells
  have ew : IntKind.i64.wrap ((p : Int) + 1) = (p : Int) + 1 := by simp [IntKind.wrap, IntKind.bits, IntKind.signed]; omega
  go_wp2
  clear c1 c2 c3 c4 ew
  go_loopw [7, 8] (fun v7 v8 wr => v7 = .bool true ∧ ∃ (xs : List DX) (Q1 : Nat → Prop) (x : DX) (q : Nat) (nx : Int), v8 = .int .i64 nx ∧ nx = (q : Int) + 1 ∧ q ≤ E.length ∧ q = p + xs.length ∧ Hid (MvI w wr w.heap.size b ra rc R lb lc Ls p 1 most S F (fun k => mv E v (p + (k + 1))) J xs Q1 x (mv E v q))) (fun _ v8 _ => (E.length + 1 - RowKit.intOf v8).toNat)
  case atStart => exact ⟨rfl, [], Q, ⟨lb, lc, Ls⟩, p, _, rfl, rfl, hp, by simp, ST⟩
  case round =>
    obtain ⟨rfl, xs, Q1, x, q, nx, rfl, hnx, hq, hqx, MI⟩ := hrel
    clear ST
    obtain ⟨k1, k2, k3, k4⟩ := MI.out.cells
    obtain ⟨k5, k6⟩ := MI.out.now2
    by_cases hgo : q < E.length
    · obtain ⟨t, ht⟩ : ∃ t, t = q := ⟨q, by omega⟩
      subst ht
      have htE : t < E.length := by omega
      obtain ⟨u, hu⟩ : ∃ u, E[t] = u := ⟨_, rfl⟩
      have hnx' : nx = ((t + 1 : Nat) : Int) := by omega
      subst hnx'
      have hoc := MI.out.oo
      rw [mv_low htE, hu] at hoc
      obtain ⟨Aa, xx, bl, Tt, eL, hAo, hxl, hbl, hTo⟩ := pair_of hoc
      have hAk : Aa.length = t := by rw [← ordL_length, hAo, List.length_take]; omega
      have LFT : Hid (∀ V, Below wr.heap.size wr V → Calls Try.prog 32 #[dgV ra R.length rc x.lb x.Ls.length x.lc, .int .i64 ((t + 1 : Nat) : Int), .int .i64 (t : Int), .int .i64 most] V fun e w' => ∃ r1 n1 c1 l1 n2 c2 bb, e = .returned (.tuple #[.agg #[.slice r1 n1 c1, .slice l1 n2 c2], .bool bb]) ∧ LuX S F ra rc R Aa [xx] bl Tt most r1 n1 c1 l1 n2 c2 bb w' ∧ Below V.heap.size V w') := fun V hV => by
        have G := MI.out.gd
        have D := MI.out.dg.below hV
        rw [eL] at G D
        have := (lift_u (rc := rc) HS.out HM.out G D hm1 h8).mono (fun e w' h => LuL.x h)
        rw [hAk, ← eL] at this
        exact this
      have HAO := hide hAo
      have HLV := hide (And.intro hxl (And.intro hbl hTo))
      have HU := hide hu
      have HQX := hide hqx
      clear eL hAo hxl hbl hTo hoc hAk hu hqx hnx
      have hEl := HEL.out
      have h0t : (0 : Int) ≤ ((t + 1 : Nat) : Int) := by omega
      have hlt : ((t + 1 : Nat) : Int) < (Ls.length : Int) := by omega
      have e1 : IntKind.i64.wrap (((t + 1 : Nat) : Int) - 1) = (t : Int) := by simp [IntKind.wrap, IntKind.bits, IntKind.signed]; omega
      clear hEl
      have m1 : (t : Int) < ((t + 1 : Nat) : Int) := by omega
      have m2 : ¬ ((t + 1 : Nat) : Int) < (t : Int) := by omega
      go_upto_region 4 with fail
      go_upto_region 5 with (go_at_call 32; refine (LFT.out _ (Below.refl _ _)).mono ?_; rintro e w2 ⟨r1, n1, c1, l1, n2, c2, bb, rfl, lx, y2⟩; have LX := hide lx; have Y2 := hide y2; have b2 := (y2.block _ (lt_of_obj MI.out.now)).trans MI.out.now; have s0 : w2.cell? ⟨w.heap.size, 0, none⟩ = some (.slice ra R.length rc) := (by rw [cell_of_row w2 _ _ _ _ _ b2]; rfl); have s1 : w2.cell? ⟨w.heap.size, 1, none⟩ = some (.slice (some ⟨x.lb, 0, none⟩) x.Ls.length x.lc) := (by rw [cell_of_row w2 _ _ _ _ _ b2]; rfl); have g0 := frozen_of_row w2 w.heap.size 0 _ _ b2; have g1 := frozen_of_row w2 w.heap.size 1 _ _ b2; clear lx y2 b2)
      obtain ⟨M3, J3, B3, R3, Z3⟩ := MI.out.put (r1 := r1) (n1 := n1) (c1 := c1) (l1 := l1) (n2 := n2) (c2 := c2) HJ.out (Nat.le_refl _) HPW.out Y2.out rfl
      replace M3 := hide M3
      replace J3 := hide J3
      replace B3 := hide B3
      replace R3 := hide R3
      replace Z3 := hide Z3
      clear s0 s1 g0 g1 k1 k2 k3 k4 k5 k6 LFT h0t hlt e1 m1 m2
      generalize (w2.setCell ⟨w.heap.size, 0, none⟩ (.slice r1 n1 c1)).setCell ⟨w.heap.size, 1, none⟩ (.slice l1 n2 c2) = w3 at *
      cases bb with
      | false =>
        go_wp2
        refine bodyPost_ret (results_none rfl _ _ _) rfl ?_
        refine ⟨⟨_, rfl⟩, xs, Q1, ⟨MI.out.sx, ?_, fun q_ hq_ hq2_ => ?_⟩, J3.out⟩
        · have := HQX.out
          omega
        · have h1 := LX.out.2 rfl
          rw [HAO.out, HLV.out.2.1] at h1
          have := HQX.out
          exact many_behind (by omega) (by rw [HU.out]; exact h1) (by omega) hq2_
      | true =>
        obtain ⟨rfl, rfl, rfl, lb2, Ls2, rfl, rfl, D2, G2, e2⟩ := LX.out.1 rfl
        have D3 : DgX w3 w3.heap.size r1 lb2 c2 R Ls2 := (D2.soft R3.out.any).mono R3.out.size (Nat.le_refl _)
        have e3 : ordL Ls2 = mv E v (t + 1) := by
          rw [e2, HAO.out, HLV.out.2.1, HLV.out.2.2, mv_high (by have := HQX.out; omega), HU.out]
          simp [LA.lay, HLV.out.1]
        have e4 : t + 1 = p + (xs.length + 1) := by have := HQX.out; omega
        have PX : PxD S F r1 R (fun k => mv E v (p + (k + 1))) xs.length ⟨lb2, c2, Ls2⟩ w3 := ⟨D3, G2, by rw [e3, e4], by have := HQX.out; omega⟩
        obtain ⟨fn, tm, asg, bdy, hy, hR⟩ := HY.out xs Q1 ⟨lb2, c2, Ls2⟩ w3 J3.out PX
        simp only [encD] at hy
        have HD3 := hide (And.intro D3 (And.intro G2 e3))
        have HE4 := hide e4
        clear D3 PX D2 G2 e2 e3 e4 LX
        have s0 : w3.cell? ⟨w.heap.size, 0, none⟩ = some (.slice r1 R.length c1) := by rw [cell_of_row w3 _ _ _ _ _ B3.out]; rfl
        have s1 : w3.cell? ⟨w.heap.size, 1, none⟩ = some (.slice (some ⟨lb2, 0, none⟩) Ls2.length c2) := by rw [cell_of_row w3 _ _ _ _ _ B3.out]; rfl
        refine (wpIn_wide (n := 0)).1 ?_
        gi_wp2
        refine ⟨rfl, hR.mono ?_⟩
        rintro e w4 ⟨rfl, Q2, hj4, hr4, hq4⟩
        have M4 : Mv9 w4 Q2 b r1 c1 R lb lc Ls p 1 most := M3.out.rnd hr4 M3.out.nq (fun k h1 h2 hk => by
          rcases hq4 k hk with h | h
          · exact M3.out.nq k h1 h2 h
          · have := M3.out.lt; omega)
        have nq4 : ¬ Q2 w.heap.size := fun hk => by
          rcases hq4 _ hk with h | h
          · exact MI.out.nq h
          · have := lt_of_obj B3.out; omega
        have FIN : Hid (MvI w w4 w.heap.size b r1 c1 R lb lc Ls p 1 most S F (fun k => mv E v (p + (k + 1))) J (xs ++ [⟨lb2, c2, Ls2⟩]) Q2 ⟨lb2, c2, Ls2⟩ (mv E v (t + 1))) := ⟨M4, hj4, (hr4.same (lt_of_obj B3.out) MI.out.nq).trans B3.out, nq4, (HD3.out.1.soft hr4.any).mono hr4.size (Nat.le_refl _), HD3.out.2.1, HD3.out.2.2, MI.out.sx.push HD3.out.2.1 (by rw [HD3.out.2.2, HE4.out]), Nat.le_trans Z3.out hr4.size⟩
        obtain ⟨k1, k2, k3, k4⟩ := FIN.out.cells
        clear M4 nq4 hj4 hr4 hq4 hR hy s0 s1
        gi_wp2
        have e5 : IntKind.i64.wrap (((t + 1 : Nat) : Int) + 1) = ((t + 1 : Nat) : Int) + 1 := by simp [IntKind.wrap, IntKind.bits, IntKind.signed]; omega
        go_wp2
        go_roundw
        case rel => exact ⟨rfl, xs ++ [⟨lb2, c2, Ls2⟩], Q2, ⟨lb2, c2, Ls2⟩, t + 1, _, rfl, by first | rfl | omega, by omega, by have := HQX.out; simp; omega, FIN⟩
        case measure => simp [RowKit.intOf]; omega
    · have HQX := hide hqx
      have hnx' : nx = (Ls.length : Int) := by have := HEL.out; omega
      subst hnx'
      clear hqx hnx
      go_wp2
      go_end0
      refine ⟨⟨_, rfl⟩, xs, Q1, ⟨MI.out.sx, ?_, fun q_ hq_ hq2_ => ?_⟩, MI.out.j⟩
      · have := HQX.out
        omega
      · have := HQX.out
        omega
end
end Go.Proofs.Ytnddhkhmbjeefaa
/-
  What others$1 has caught, and what its loops keep; others by its contract. No condition.
-/
namespace Go.Proofs.Ytnddhkhmbjeefaa
open Go.RowKit Go.Lib Go.Maps

structure Ot9 (w : World) (Q : Nat → Prop) (b : Nat) (ra : Option Addr) (rc : Nat) (R : List Int) (lb lc : Nat) (Ls : List LA) (v most : Int) : Prop where
  b0 : w.heap[b]? = some (.cells #[.slice ra R.length rc, .slice (some ⟨lb, 0, none⟩) Ls.length lc] 70 (0, 0))
  b1 : w.heap[b + 1]? = some (.cells #[.int .i64 v] 3 (0, 0))
  b2 : w.heap[b + 2]? = some (.cells #[.int .i64 most] 3 (0, 0))
  dg : DgX w w.heap.size ra lb lc R Ls
  nq : ∀ k, b ≤ k → k ≤ b + 2 → ¬ Q k
/-- A diagram that is handed on. -/
def PxO (S : List Int) (F : List Phi) (ra : Option Addr) (R : List Int) (_ : Nat) (x : DX) (w : World) : Prop := DgX w w.heap.size ra x.lb x.lc R x.Ls ∧ GD S F R (layL x.Ls)
/-- All of them: from the first place on. -/
def SOt (S : List Int) (F : List Phi) (R : List Int) (most : Int) (E : List Int) (v : Int) (p : Nat) (xs : List DX) : Prop := ∃ As Bs, SAh S F R most E v p As ∧ SBh S F R most E v p Bs ∧ xs = As.reverse ++ Bs
section
variable {S : List Int} {F : List Phi} {R : List Int} {ra : Option Addr} {rc b lb lc : Nat} {Ls : List LA} {E : List Int} {v most : Int} {p : Nat} {w w' : World} {Q Q' : Nat → Prop}
theorem PxO.soft {k : Nat} {x : DX} {A A' : World} (h : PxO S F ra R k x A) (hk : Kept (fun b => Soft A b) A A') : PxO S F ra R k x A' := ⟨(h.1.soft hk).mono hk.size (Nat.le_refl _), h.2⟩
theorem Ot9.lt (h : Ot9 w Q b ra rc R lb lc Ls v most) : b + 2 < w.heap.size := lt_of_obj h.b2
theorem Ot9.rnd {Z : Nat → Prop} (h : Ot9 w Q b ra rc R lb lc Ls v most) (k : Rnd Z w w') (hz : ∀ k, b ≤ k → k ≤ b + 2 → ¬ Z k) (hq : ∀ k, b ≤ k → k ≤ b + 2 → ¬ Q' k) : Ot9 w' Q' b ra rc R lb lc Ls v most := by
  have hlt := h.lt
  exact ⟨(k.same (by omega) (hz _ (by omega) (by omega))).trans h.b0, (k.same (by omega) (hz _ (by omega) (by omega))).trans h.b1, (k.same (by omega) (hz _ (by omega) (by omega))).trans h.b2, (h.dg.soft k.any).mono k.size (Nat.le_refl _), hq⟩
theorem Ot9.cells (h : Ot9 w Q b ra rc R lb lc Ls v most) : w.cell? ⟨b, 0, none⟩ = some (.slice ra R.length rc) ∧ w.cell? ⟨b, 1, none⟩ = some (.slice (some ⟨lb, 0, none⟩) Ls.length lc) ∧ w.cell? ⟨b + 1, 0, none⟩ = some (.int .i64 v) ∧ w.cell? ⟨b + 2, 0, none⟩ = some (.int .i64 most) :=
  ⟨by rw [cell_of_row w _ _ _ _ _ h.b0]; rfl, by rw [cell_of_row w _ _ _ _ _ h.b0]; rfl, by rw [cell_of_row w _ _ _ _ _ h.b1]; rfl, by rw [cell_of_row w _ _ _ _ _ h.b2]; rfl⟩
/-- Where the level stands. -/
theorem place_mv (G : GD S F R (layL Ls)) (ho : ordL Ls = mv E v p) (hp : p ≤ E.length) : ∃ h : p < Ls.length, (Ls[p]).lv = v ∧ ∀ i (hi : i < p), (Ls[i]).lv ≠ v := by
  have hl := congrArg List.length ho
  rw [ordL_length, mv_length] at hl
  have hpl : p < Ls.length := by omega
  have e1 : (ordL Ls)[p]? = some v := by
    rw [ho, mv, List.getElem?_append_right (by rw [List.length_take]; omega), List.length_take, Nat.min_eq_left hp, Nat.sub_self]
    rfl
  have e2 : (Ls[p]).lv = v := by
    rw [ordL_get hpl] at e1
    exact Option.some.inj e1
  refine ⟨hpl, e2, fun i hi e3 => ?_⟩
  have hno : (ordL Ls).Nodup := G.ord.nod
  refine List.pairwise_iff_getElem.1 hno i p (by rw [ordL_length]; omega) (by rw [ordL_length]; omega) hi ?_
  have h1 := ordL_get (Ls := Ls) (i := i) (by omega)
  have h2 := ordL_get hpl
  rw [List.getElem?_eq_getElem (by rw [ordL_length]; omega)] at h1 h2
  rw [Option.some.inj h1, Option.some.inj h2, e3, e2]
/-- What a loop within an iterator keeps: what its own caller keeps, from w1 on. -/
def InI {α : Type} (J : List DX → (Nat → Prop) → World → Prop) (f : List α → List DX) (w1 : World) (Q1 : Nat → Prop) (zs : List α) (Q : Nat → Prop) (w : World) : Prop := J (f zs) Q w ∧ Rnd Q1 w1 w ∧ ∀ b, Q b → Q1 b ∨ w1.heap.size ≤ b
theorem InI.stb {α : Type} {J : List DX → (Nat → Prop) → World → Prop} {f : List α → List DX} {w1 : World} {Q1 : Nat → Prop} {B : Nat} (hJ : Stb B J) (hB : B ≤ w1.heap.size) : Stb w1.heap.size (InI J f w1 Q1) := by
  refine ⟨fun zs Q A A' ⟨h1, h2, h3⟩ k => ⟨hJ.its _ _ _ _ h1 (Rnd.its (Its.rnd k) (fun b hb => ⟨by have := hb.1; omega, hb.2⟩)), h2.trans_new (Its.rnd k) (fun b hb hq => by have := hq.1; omega), h3⟩, fun zs Q A h => hJ.low _ _ _ h.1⟩
theorem InI.start {α : Type} {J : List DX → (Nat → Prop) → World → Prop} {f : List α → List DX} {w1 : World} {Q1 : Nat → Prop} (h : J (f []) Q1 w1) : InI J f w1 Q1 [] Q1 w1 := ⟨h, Rnd.refl, fun _ h => .inl h⟩
theorem InI.step {α : Type} {J : List DX → (Nat → Prop) → World → Prop} {f : List α → List DX} {w1 : World} {Q1 : Nat → Prop} {zs : List α} {z : α} {x : DX} {w4 : World} {Q2 : Nat → Prop} (h : InI J f w1 Q1 zs Q w) (e : f (zs ++ [z]) = f zs ++ [x]) (hj : J (f zs ++ [x]) Q2 w4) (hr : Rnd Q w w4) (hq : ∀ b, Q2 b → Q b ∨ w.heap.size ≤ b) : InI J f w1 Q1 (zs ++ [z]) Q2 w4 := by
  refine ⟨by rw [e]; exact hj, h.2.1.trans_new hr (fun b hb hq1 => ?_), fun b hb => ?_⟩
  · rcases h.2.2 b hq1 with h1 | h1
    · exact h1
    · omega
  · rcases hq b hb with h1 | h1
    · exact h.2.2 b h1
    · exact .inr (Nat.le_trans h.2.1.size h1)
theorem InI.same {α : Type} {J : List DX → (Nat → Prop) → World → Prop} {f : List α → List DX} {w1 : World} {Q1 : Nat → Prop} {zs : List α} (h : InI J f w1 Q1 zs Q w) {k : Nat} {o : Obj} (hk : w1.heap[k]? = some o) (hq : ¬ Q1 k) : w.heap[k]? = some o ∧ ¬ Q k :=
  ⟨(h.2.1.same (lt_of_obj hk) hq).trans hk, fun hh => by
    rcases h.2.2 k hh with h1 | h1
    · exact hq h1
    · have := lt_of_obj hk
      omega⟩
theorem blocks3 (o1 o2 o3 : Obj) : ∃ w', w' = ((w.alloc o1).alloc o2).alloc o3 ∧ Below w.heap.size w w' ∧ w'.heap[w.heap.size]? = some o1 ∧ w'.heap[w.heap.size + 1]? = some o2 ∧ w'.heap[w.heap.size + 2]? = some o3 := by
  have s1 : (w.alloc o1).heap.size = w.heap.size + 1 := by simp
  have s2 : ((w.alloc o1).alloc o2).heap.size = w.heap.size + 2 := by simp
  have y2 := al (Below.refl _ (w.alloc o1)) o2
  have y3 := al (Below.refl _ ((w.alloc o1).alloc o2)) o3
  have b1 := World.alloc_heap_new w o1
  have b2 := World.alloc_heap_new (w.alloc o1) o2
  have b3 := World.alloc_heap_new ((w.alloc o1).alloc o2) o3
  rw [s1] at b2
  rw [s2] at b3
  exact ⟨_, rfl, al (al (al (Below.refl _ _) _) _) _, (y3.block _ (by omega)).trans ((y2.block _ (by omega)).trans b1), (y3.block _ (by omega)).trans b2, b3⟩
abbrev otCap (b : Nat) : Array Value := #[.pointer (some ⟨b, 0, none⟩), .pointer (some ⟨b + 1, 0, none⟩), .pointer (some ⟨b + 2, 0, none⟩)]
set_option maxRecDepth 100000 in
set_option maxHeartbeats 1000000 in
theorem others_any {B : Nat} (D : DgX w B ra lb lc R Ls) :
    Calls Try.prog 71 #[dgV ra R.length rc lb Ls.length lc, .int .i64 v, .int .i64 most] w fun e w' => ∃ b, e = .returned (.func (.func 80) #[] (otCap b)) ∧ w.heap.size ≤ b ∧ (∀ Q, (∀ k, Q k → k < w.heap.size) → Ot9 w' Q b ra rc R lb lc Ls v most) ∧ Below w.heap.size w w' := by
  have hmf : ∀ (fn : Fn) (first cap : Array Value) (w : World), (Instr.makeFunc fn first cap).run Try.prog w = .ok (.func fn first cap) w := fun _ _ _ _ => rfl
  obtain ⟨w', hw', y, b0, b1, b2⟩ := blocks3 (w := w) (.cells #[.slice ra R.length rc, .slice (some ⟨lb, 0, none⟩) Ls.length lc] 70) (.cells #[.int .i64 v] 3) (.cells #[.int .i64 most] 3)
  have HY := hide y
  have HB := hide (And.intro b0 (And.intro b1 b2))
  have HD := hide D
  have HW := hide hw'
  clear hw' y b0 b1 b2 D
  go_enter Try.func71, Try.ntmps71
  go_wp2
  go_ret
  rw [← HW.out]
  exact ⟨w.heap.size, rfl, Nat.le_refl _, fun Q hQ => ⟨HB.out.1, HB.out.2.1, HB.out.2.2, (HD.out.below (HY.out.mono HD.out.hB)).mono (Nat.le_trans HD.out.hB HY.out.size) (Nat.le_refl _), fun k h1 _ hq => by have := hQ k hq; omega⟩, HY.out⟩
end
end Go.Proofs.Ytnddhkhmbjeefaa
