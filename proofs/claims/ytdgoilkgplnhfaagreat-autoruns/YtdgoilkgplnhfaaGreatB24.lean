/-
  The code's mark by its contract. Condition: at most 65536 states.
-/
import Derived.Test.YtdgoilkgplnhfaaGreatB21
import Derived.Test.YtdgoilkgplnhfaaGreatB18
import Derived.BigRegion
import Derived.Deep.DeepCutAuto
import Derived.Deep.LoopGhost
import Derived.Test.YtdgoilkgplnhfaaGreatB23
namespace Go.Proofs.YtdgoilkgplnhfaaGreat
open Go.RowKit Go.Lib

theorem frozen_kept {F : Nat → Prop} {w w' : World} (h : Kept F w w') {b i : Nat} (hl : b < w.heap.size) (hf : ¬ F b) : w'.frozen? ⟨b, i, none⟩ = w.frozen? ⟨b, i, none⟩ := by
  unfold World.frozen?
  rw [h.block b hl hf]
theorem below_draws (A : World) (N : Nat) : Below A.heap.size A (A.drew.drew.drewN N) := ⟨rfl, rfl, rfl, Nat.le_refl _, fun _ _ => rfl⟩
theorem mark_end {w2 w3 w4 : World} {lg pg rg rm q o s k3 : Nat} (e3 : w3 = ((w2.setCell ⟨lg, rm, none⟩ (.int .i64 (s : Int))).setCell ⟨lg, q, none⟩ (.int .i64 (o : Int))).drew) (e4 : w4 = ((w3.setCell ⟨pg, o, none⟩ (.int .i64 (q : Int))).setCell ⟨pg, s, none⟩ (.int .i64 (rm : Int))).drew) (N : Nat) :
    ∃ A, A = ((((w2.setCell ⟨lg, rm, none⟩ (.int .i64 (s : Int))).setCell ⟨lg, q, none⟩ (.int .i64 (o : Int))).setCell ⟨pg, o, none⟩ (.int .i64 (q : Int))).setCell ⟨pg, s, none⟩ (.int .i64 (rm : Int))).setCell ⟨rg, k3, none⟩ (.int .i64 ((rm + 1 : Nat) : Int)) ∧ Below A.heap.size A ((w4.setCell ⟨rg, k3, none⟩ (.int .i64 ((rm : Int) + 1))).drewN N) := by
  rw [e4, e3]
  simp only [World.setCell_drew]
  rw [show (rm : Int) + 1 = ((rm + 1 : Nat) : Int) by simp]
  exact ⟨_, rfl, below_draws _ N⟩
set_option maxRecDepth 100000 in
set_option maxHeartbeats 4000000 in
theorem mark_any {n : Nat} {M : Nat → Prop} (w : World) (base pb : Nat) (lv pv ov rv : Value) (L P O : List Nat) (R : List Rm) (s : Nat) (h : PrM w base pb lv pv ov rv L P O R) (hp : PtS n L P O R) (hM : MkS n P O R M) (hs : s < n) (hns : ¬ M s) (hn : n ≤ 65536) :
    Calls Tryz.prog 140 #[.pointer (some ⟨pb, 0, none⟩), .int .i64 (s : Nat)] w fun e w' =>
      (∃ b : Bool, e = .returned (.bool b) ∧ (b = true ↔ (gR R (gN O s)).m = (gR R (gN O s)).a)) ∧ ∃ L' P', PrM w' base pb lv pv ov rv L' P' O (R.set (gN O s) ⟨(gR R (gN O s)).a, (gR R (gN O s)).m + 1, (gR R (gN O s)).e⟩) ∧ PtS n L' P' O (R.set (gN O s) ⟨(gR R (gN O s)).a, (gR R (gN O s)).m + 1, (gR R (gN O s)).e⟩) ∧ MkS n P' O (R.set (gN O s) ⟨(gR R (gN O s)).a, (gR R (gN O s)).m + 1, (gR R (gN O s)).e⟩) (fun t => M t ∨ t = s) ∧ Kept (inP lv pv ov rv) w w' := by
  obtain ⟨h1, h2, h3, h4, h5, h6, h7⟩ := hp.at hM hs hns
  obtain ⟨p1, p2⟩ := hp.mark hM hs hns rfl rfl
  have HP1 := hide p1
  have HP2 := hide p2
  clear p1 p2
  obtain ⟨q0, q1, q2, q3⟩ := h.cells
  obtain ⟨la, lc, hlv⟩ := OwnN.shape (h.rws.own 0 (by simp))
  obtain ⟨pa, pc, hpv⟩ := OwnN.shape (h.rws.own 1 (by simp))
  obtain ⟨oa, oc, hov⟩ := OwnN.shape (h.rws.own 2 (by simp))
  simp only [List.getElem_cons_succ, List.getElem_cons_zero] at hlv hpv hov
  subst hlv hpv hov
  obtain ⟨rg, rc, rfl⟩ := h.own.at (by omega)
  obtain ⟨og, rfl, co⟩ := OwnN.gcell (h.rws.own 2 (by simp)) (by show s < O.length; rw [hp.ol]; exact hs)
  obtain ⟨pg, rfl, cp⟩ := OwnN.gcell (h.rws.own 1 (by simp)) (by show s < P.length; rw [hp.pl]; exact hs)
  obtain ⟨lg, rfl, cl⟩ := OwnN.gcell (h.rws.own 0 (by simp)) (by show (gR R (gN O s)).m < L.length; rw [hp.ll]; exact h4)
  have cm := h.own.cell h1 (show 1 < 3 by decide)
  have ca := h.own.cell h1 (show 0 < 3 by decide)
  have hll := hp.ll
  have hpl := hp.pl
  have hol := hp.ol
  have hrl := hp.many
  generalize gN O s = k at *
  generalize gN P s = q at *
  generalize hgr : gR R k = r at *
  have HGR : Hid (gR R k = r) := hgr
  clear hgr
  obtain ⟨ra, rm, re⟩ := r
  simp only [rmC, List.getElem?_cons_succ, List.getElem?_cons_zero] at cm ca
  simp only at h3 h4 h5 h6 h7 cl HP1 HP2 ⊢
  generalize gN L rm = o at *
  have a1 : (s : Int) < (O.length : Int) := by omega
  have a2 : (s : Int) < (P.length : Int) := by omega
  have a3 : (k : Int) < (R.length : Int) := by omega
  have a4 : (rm : Int) < (L.length : Int) := by omega
  have a5 : (q : Int) < (L.length : Int) := by omega
  have a6 : (o : Int) < (P.length : Int) := by omega
  clear hll hpl hol
  go_enter Tryz.func140, Tryz.ntmps140
  go_wp2
  go_quiet (fail)
  obtain ⟨w1, hw1⟩ : ∃ w1, w1 = w.drewN nq := ⟨_, rfl⟩
  rw [← hw1]
  go_wp2
  go_quiet (fail)
  obtain ⟨w2, hw2⟩ : ∃ w2, w2 = w1.drewN nq := ⟨_, rfl⟩
  rw [← hw2]
  have Y : Hid (Below w.heap.size w w2) := by rw [hw2, hw1]; exact ⟨rfl, rfl, rfl, Nat.le_refl _, fun _ _ => rfl⟩
  clear hw1 hw2
  have h2 := h.below Y.out
  have HYK : Hid (Kept (inP (.slice (some ⟨lg, 0, none⟩) L.length lc) (.slice (some ⟨pg, 0, none⟩) P.length pc) (.slice (some ⟨og, 0, none⟩) O.length oc) (.slice (some ⟨rg, 0, none⟩) R.length rc)) w w2) := Kept.of_below Y.out
  have h2lt : ∀ b, inP (.slice (some ⟨lg, 0, none⟩) L.length lc) (.slice (some ⟨pg, 0, none⟩) P.length pc) (.slice (some ⟨og, 0, none⟩) O.length oc) (.slice (some ⟨rg, 0, none⟩) R.length rc) b → ¬ b = pb := h2.notpb
  have nlp : ¬ pb = lg := fun e => h2lt lg (.inl rfl) e.symm
  have npp : ¬ pb = pg := fun e => h2lt pg (.inr (.inl rfl)) e.symm
  have oL : w2.ownsRow base 3 1 (.slice (some ⟨lg, 0, none⟩) L.length lc) L.length (nCells L) := h2.rws.own 0 (by simp)
  have oP : w2.ownsRow base 3 1 (.slice (some ⟨pg, 0, none⟩) P.length pc) P.length (nCells P) := h2.rws.own 1 (by simp)
  have oR : w2.ownsRow base 164 3 (.slice (some ⟨rg, 0, none⟩) R.length rc) R.length (rCells R) := h2.own
  have nlr : ¬ rg = lg := fun e => own_ne oR oL (by decide) rg rfl (by rw [e]; rfl)
  have npr : ¬ rg = pg := fun e => own_ne oR oP (by decide) rg rfl (by rw [e]; rfl)
  have nlg : ¬ pg = lg := fun e => h2.rws.ap 1 (by simp) 0 (by simp) (by decide) pg rfl (by rw [e]; rfl)
  have HMK := hide (h2.mark rm s q o k h1)
  rw [HGR.out] at HMK
  simp only at HMK
  have b0 := (Y.out.cell (p := ⟨pb, 0, none⟩) (lt_of_block h.blk)).trans q0
  have b1 := (Y.out.cell (p := ⟨pb, 1, none⟩) (lt_of_block h.blk)).trans q1
  obtain ⟨x1, x2⟩ := OwnN.slot (h2.rws.own 0 (by simp)) (i := rm) (by show rm < L.length; omega)
  obtain ⟨x3, x4⟩ := OwnN.slot (h2.rws.own 0 (by simp)) (i := q) (by show q < L.length; omega)
  obtain ⟨x5, x6⟩ := OwnN.slot (h2.rws.own 1 (by simp)) (i := o) (by show o < P.length; omega)
  obtain ⟨x7, x8⟩ := OwnN.slot (h2.rws.own 1 (by simp)) (i := s) (by show s < P.length; omega)
  have cp2 : w2.cell? ⟨pg, s, none⟩ = some (.int .i64 (q : Int)) := (Y.out.cell (p := ⟨pg, s, none⟩) (World.ownsRow.lt (show w.ownsRow base 3 1 (.slice (some ⟨pg, 0, none⟩) P.length pc) P.length (nCells P) from h.rws.own 1 (by simp)) pg rfl).2).trans cp
  have hrg := (World.ownsRow.lt (show w.ownsRow base 164 3 (.slice (some ⟨rg, 0, none⟩) R.length rc) R.length (rCells R) from h.own) rg rfl).2
  have cm2 : w2.cell? ⟨rg, k * 3 + 1, none⟩ = some (.int .i64 (rm : Int)) := (Y.out.cell (p := ⟨rg, k * 3 + 1, none⟩) hrg).trans cm
  have ca2 : w2.cell? ⟨rg, k * 3, none⟩ = some (.int .i64 (ra : Int)) := (Y.out.cell (p := ⟨rg, k * 3, none⟩) hrg).trans ca
  have fz := oR.frozenAt (k * 3 + 1)
  obtain ⟨v1, y1⟩ : ∃ v, w2.cell? ⟨lg, rm, none⟩ = some v := ⟨_, x1⟩
  obtain ⟨u3, y3⟩ := cell?_setCell_some (w := w2) (p := ⟨lg, rm, none⟩) (x := .int .i64 (s : Int)) (q := ⟨lg, q, none⟩) x3
  have l2 := lt_of_block h2.blk
  have l3 := (World.ownsRow.lt oP pg rfl).2
  have l4 := (World.ownsRow.lt oR rg rfl).2
  have KK : ∀ a b, Kept (fun i => i = lg) w2 ((w2.setCell ⟨lg, rm, none⟩ a).setCell ⟨lg, q, none⟩ b).drew := fun a b => (((Kept.refl (fun i => i = lg) w2).setCell (p := ⟨lg, rm, none⟩) rfl a).setCell (p := ⟨lg, q, none⟩) rfl b).drew
  have HKK := hide KK
  have HX5 := hide (And.intro x5 x6)
  have HX8 := hide x8
  clear q0 q1 q2 q3 co cp cl cm ca oL oP oR h2lt Y x1 x3 x5 x6 x7 x8 KK
  as_aux_lemma =>
    go_wp2
    go_region
    have K3 := HKK.out (.int .i64 (s : Int)) (.int .i64 (o : Int))
    obtain ⟨w3, hw3⟩ : ∃ w3, w3 = ((w2.setCell ⟨lg, rm, none⟩ (.int .i64 (s : Int))).setCell ⟨lg, q, none⟩ (.int .i64 (o : Int))).drew := ⟨_, rfl⟩
    rw [← hw3] at K3 ⊢
    have HW3 := hide hw3
    clear hw3 HKK y1 y3 x2 x4
    have d1 := (K3.cell (p := ⟨pb, 1, none⟩) l2 nlp).trans b1
    have d2 := (K3.cell (p := ⟨pg, s, none⟩) l3 nlg).trans cp2
    have d3 := (K3.cell (p := ⟨rg, k * 3 + 1, none⟩) l4 nlr).trans cm2
    have d4 := (K3.cell (p := ⟨rg, k * 3, none⟩) l4 nlr).trans ca2
    have d5 : w3.frozen? ⟨rg, k * 3 + 1, none⟩ = false := (frozen_kept K3 l4 nlr).trans fz
    have d6 : w3.frozen? ⟨pg, o, none⟩ = false := (frozen_kept K3 l3 nlg).trans HX5.out.2
    have d7 : w3.frozen? ⟨pg, s, none⟩ = false := (frozen_kept K3 l3 nlg).trans HX8.out
    obtain ⟨v8, d8⟩ : ∃ v, w3.cell? ⟨pg, o, none⟩ = some v := ⟨_, (K3.cell (p := ⟨pg, o, none⟩) l3 nlg).trans HX5.out.1⟩
    obtain ⟨u9, d9⟩ := cell?_setCell_some (w := w3) (p := ⟨pg, o, none⟩) (x := .int .i64 (q : Int)) (q := ⟨pg, s, none⟩) d2
    have l4' : rg < w3.heap.size := Nat.lt_of_lt_of_le l4 K3.size
    have HKK : Hid (∀ a b, Kept (fun i => i = pg) w3 ((w3.setCell ⟨pg, o, none⟩ a).setCell ⟨pg, s, none⟩ b).drew) := fun a b => (((Kept.refl (fun i => i = pg) w3).setCell (p := ⟨pg, o, none⟩) rfl a).setCell (p := ⟨pg, s, none⟩) rfl b).drew
    clear b0 b1 cp2 cm2 ca2 fz HX5 HX8 l2 l3 K3
    as_aux_lemma =>
      go_wp2
      go_region
      have K4 := HKK.out (.int .i64 (q : Int)) (.int .i64 (rm : Int))
      obtain ⟨w4, hw4⟩ : ∃ w4, w4 = ((w3.setCell ⟨pg, o, none⟩ (.int .i64 (q : Int))).setCell ⟨pg, s, none⟩ (.int .i64 (rm : Int))).drew := ⟨_, rfl⟩
      rw [← hw4] at K4 ⊢
      have HW4 := hide hw4
      clear hw4 HKK
      have e3 := (K4.cell (p := ⟨rg, k * 3 + 1, none⟩) l4' npr).trans d3
      have e4 := (K4.cell (p := ⟨rg, k * 3, none⟩) l4' npr).trans d4
      have e5 : w4.frozen? ⟨rg, k * 3 + 1, none⟩ = false := (frozen_kept K4 l4' npr).trans d5
      have f1 : IntKind.i64.wrap ((rm : Int) + 1) = ((rm + 1 : Nat) : Int) := by rw [show (rm : Int) + 1 = ((rm + 1 : Nat) : Int) by simp]; exact w64_n _ (by omega)
      have f2 : IntKind.i64.wrap ((ra : Int) + 1) = ((ra + 1 : Nat) : Int) := by rw [show (ra : Int) + 1 = ((ra + 1 : Nat) : Int) by simp]; exact w64_n _ (by omega)
      have HF : Hid (∀ N, PrM ((w4.setCell ⟨rg, k * 3 + 1, none⟩ (.int .i64 ((rm : Int) + 1))).drewN N) base pb (.slice (some ⟨lg, 0, none⟩) L.length lc) (.slice (some ⟨pg, 0, none⟩) P.length pc) (.slice (some ⟨og, 0, none⟩) O.length oc) (.slice (some ⟨rg, 0, none⟩) R.length rc) ((L.set rm s).set q o) ((P.set o q).set s rm) O (R.set k ⟨ra, rm + 1, re⟩) ∧ Kept (inP (.slice (some ⟨lg, 0, none⟩) L.length lc) (.slice (some ⟨pg, 0, none⟩) P.length pc) (.slice (some ⟨og, 0, none⟩) O.length oc) (.slice (some ⟨rg, 0, none⟩) R.length rc)) w ((w4.setCell ⟨rg, k * 3 + 1, none⟩ (.int .i64 ((rm : Int) + 1))).drewN N)) := fun N => by
        obtain ⟨m1, m2⟩ := HMK.out
        obtain ⟨A, hA, y⟩ := mark_end (rg := rg) (k3 := k * 3 + 1) HW3.out HW4.out N
        rw [← hA] at m1 m2
        exact ⟨m1.below y, (HYK.out.trans m2).trans (Kept.of_below y)⟩
      clear d1 d2 d3 d4 d5 d6 d7 d8 d9 K4
      as_aux_lemma =>
        go_wp2
        go_quiet (fail)
        obtain ⟨m1, m2⟩ := HF.out nq
        go_wp2
        go_ret
        exact ⟨⟨_, rfl, by simp; try omega⟩, _, _, m1, HP1.out, HP2.out, m2⟩
end Go.Proofs.YtdgoilkgplnhfaaGreat
/-
  What stands while parts are split: marks, then cuts. Of the program its types alone: no condition.
-/
namespace Go.Proofs.YtdgoilkgplnhfaaGreat
open Go.RowKit Go.Lib

/-- What stands while states are marked: the rows, what has been marked, the parts that were touched. -/
structure SpM (n W c : Nat) (NX S F T : List Nat) (base pb : Nat) (lv pv ov rv : Value) (O : List Nat) (w0 : World) (i p : Nat) (tv : Value) (Tc L P : List Nat) (R : List Rm) (w : World) : Prop where
  pr : PrM w base pb lv pv ov rv L P O R
  pt : PtS n L P O R
  mks : MkS n P O R (mrk n W c NX S F T i p)
  tc : TcS R Tc
  ow : OwnN w w0.heap.size tv Tc
  kp : Kept (fun b => inP lv pv ov rv b) w0 w
section
variable {n W c : Nat} {NX S F T : List Nat} {base pb : Nat} {lv pv ov rv : Value} {O : List Nat} {w0 : World} {i p : Nat} {tv : Value} {Tc L P : List Nat} {R : List Rm} {w w' : World}
/-- The rows are older. -/
theorem inP.lt (h : PrM w base pb lv pv ov rv L P O R) {b : Nat} (hb : inP lv pv ov rv b) : b < w.heap.size := by
  have hx : ∀ (j : Nat) (hj : j < 3), ([(lv, L), (pv, P), (ov, O)] : List RN)[j].1.ownBlock = some b → b < w.heap.size := fun j hj hf => (World.ownsRow.lt (show w.ownsRow base 3 1 _ _ (nCells _) from h.rws.own j hj) b hf).2
  rcases hb with hb | hb | hb | hb
  · exact hx 0 (by decide) hb
  · exact hx 1 (by decide) hb
  · exact hx 2 (by decide) hb
  · exact (World.ownsRow.lt (show w.ownsRow base 164 3 rv R.length (rCells R) from h.own) b hb).2
theorem SpM.below (h : SpM n W c NX S F T base pb lv pv ov rv O w0 i p tv Tc L P R w) (x : Below w.heap.size w w') : SpM n W c NX S F T base pb lv pv ov rv O w0 i p tv Tc L P R w' :=
  ⟨h.pr.below x, h.pt, h.mks, h.tc, own_below h.ow x, h.kp.trans (Kept.of_below x)⟩
theorem SpM.apart (h : SpM n W c NX S F T base pb lv pv ov rv O w0 i p tv Tc L P R w) (hl : ∀ b, inP lv pv ov rv b → b < w0.heap.size) : ∀ b, tv.ownBlock = some b → ¬ inP lv pv ov rv b := fun b hb hf => by
  have h1 := (World.ownsRow.lt (show w.ownsRow w0.heap.size 3 1 tv Tc.length (nCells Tc) from h.ow) b hb).1
  have := hl b hf
  omega
theorem SpM.mark (h : SpM n W c NX S F T base pb lv pv ov rv O w0 i p tv Tc L P R w) (hl : ∀ b, inP lv pv ov rv b → b < w0.heap.size) (h1 : gN S (c * n + gN T i) ≤ p) (h2 : p < gN S (c * n + gN T i + 1)) (hn : gN F p < n) {P' : List Nat} {R' : List Rm}
    (hR : R' = R.set (gN O (gN F p)) ⟨(gR R (gN O (gN F p))).a, (gR R (gN O (gN F p))).m + 1, (gR R (gN O (gN F p))).e⟩) (q3 : MkS n P' O R' (fun t => mrk n W c NX S F T i p t ∨ t = gN F p)) (q4 : Kept (inP lv pv ov rv) w w') :
    OwnN w' w0.heap.size tv Tc ∧ Kept (fun b => inP lv pv ov rv b) w0 w' ∧ MkS n P' O R' (mrk n W c NX S F T i (p + 1)) ∧ ((gR R (gN O (gN F p))).m = (gR R (gN O (gN F p))).a → TcS R' (Tc ++ [gN O (gN F p)])) ∧ (¬ (gR R (gN O (gN F p))).m = (gR R (gN O (gN F p))).a → TcS R' Tc) := by
  have hk := (h.pt.os _ hn).1
  have ha := (h.pt.rm _ hk).1
  refine ⟨own_kept h.ow q4 (h.apart hl), h.kp.trans q4, q3.congr (fun s _ => mrk.next h1 h2 hn), fun e => ?_, fun e => ?_⟩
  · rw [hR]; exact h.tc.first hk e
  · rw [hR]; exact h.tc.more hk e ha
end
/-- A part that was touched first. -/
theorem SpM.app {n W c : Nat} {NX S F T : List Nat} {base pb : Nat} {lv pv ov rv : Value} {O : List Nat} {w0 : World} {i p : Nat} {tv tv' : Value} {Tc L P : List Nat} {R : List Rm} {w wA w6 : World} {k : Nat} (q1 : PrM w base pb lv pv ov rv L P O R) (q2 : PtS n L P O R) (q3 : MkS n P O R (mrk n W c NX S F T i p)) (q4 : TcS R (Tc ++ [k])) (q5 : OwnN w w0.heap.size tv Tc) (q6 : Kept (fun b => inP lv pv ov rv b) w0 w) (hl : ∀ b, inP lv pv ov rv b → b < w0.heap.size) (hpb : pb < w0.heap.size) (x : Below w.heap.size w wA)
    (g1 : w6.ownsRow w0.heap.size 3 1 tv' (Tc.length + 1) (nCells Tc ++ [.int .i64 (k : Int)])) (g2 : AppAt wA w6 tv tv') : SpM n W c NX S F T base pb lv pv ov rv O w0 i p tv' (Tc ++ [k]) L P R w6 := by
  have oA : wA.ownsRow w0.heap.size 3 1 tv Tc.length (nCells Tc) := own_below q5 x
  obtain ⟨G, k6, hG⟩ : ∃ G : Nat → Prop, Kept G wA w6 ∧ (∀ b, G b → tv.ownBlock = some b) := by
    rcases g2 with ⟨q, a, b, c⟩ | ⟨a, b⟩
    · exact ⟨fun b => some q = some b, kept_of_grown c, fun b hb => a.trans hb⟩
    · exact ⟨fun _ => False, Kept.of_below (below_of_grown a), fun b hb => hb.elim⟩
  have hge : ∀ b, G b → w0.heap.size ≤ b := fun b hb => (World.ownsRow.lt oA b (hG b hb)).1
  refine ⟨(q1.below x).kept k6 (fun hb => by have := hge _ hb; omega) (fun b hb hf => by have := hge _ hf; have := hl b hb; omega), q2, q3, q4, ?_, ?_⟩
  · unfold OwnN
    rw [nCells_snoc, List.length_append, List.length_singleton]
    exact g1
  · refine (q6.trans (Kept.of_below x)).trans_new k6 (fun b hb hf => ?_)
    have := hge b hf
    omega
/-- What stands while parts are cut. -/
structure SpC (n : Nat) (base pb : Nat) (lv pv ov rv : Value) (L P O : List Nat) (R : List Rm) (w0 : World) (tv : Value) (Tc : List Nat) (i : Nat) (rv' : Value) (O' : List Nat) (R' : List Rm) (w : World) : Prop where
  pr : PrM w base pb lv pv ov rv' L P O' R'
  ct : CtS n L P O R (fun k => ∃ j, j < i ∧ gN Tc j = k) O' R'
  ow : OwnN w w0.heap.size tv Tc
  kp : Kept (fun b => inP lv pv ov rv b ∨ b = pb) w0 w
  rb : ∀ b, rv'.ownBlock = some b → rv.ownBlock = some b ∨ w0.heap.size ≤ b
  il : i ≤ Tc.length
section
variable {n : Nat} {base pb : Nat} {lv pv ov rv : Value} {L P O : List Nat} {R : List Rm} {w0 : World} {tv : Value} {Tc : List Nat} {i : Nat} {rv' : Value} {O' : List Nat} {R' : List Rm} {w w' : World}
theorem SpC.at (h : SpC n base pb lv pv ov rv L P O R w0 tv Tc i rv' O' R' w) (ht : TcS R Tc) (hi : i < Tc.length) : gN Tc i < R'.length ∧ gR R' (gN Tc i) = gR R (gN Tc i) ∧ (gR R' (gN Tc i)).a < (gR R' (gN Tc i)).m := by
  have hm : gN Tc i ∈ Tc := by rw [gN_lt hi]; exact List.getElem_mem hi
  have h1 := (ht.1 _).1 hm
  have hd : ¬ ∃ j, j < i ∧ gN Tc j = gN Tc i := fun ⟨j, hj, e⟩ => by
    rw [gN_lt hi, gN_lt (show j < Tc.length by omega)] at e
    exact (List.pairwise_iff_getElem.1 ht.2 j i (by omega) hi hj) e
  obtain ⟨a, b, _⟩ := h.ct.at h1.1 hd
  exact ⟨a, b, by rw [b]; exact h1.2⟩
theorem CtS.dn {Dn Dn' : Nat → Prop} (h : CtS n L P O R Dn O' R') (e : ∀ k, Dn k ↔ Dn' k) : CtS n L P O R Dn' O' R' := by
  have : Dn = Dn' := funext fun k => propext (e k)
  rw [← this]; exact h
theorem SpC.cut (h : SpC n base pb lv pv ov rv L P O R w0 tv Tc i rv' O' R' w) (ht : TcS R Tc) (hi : i < Tc.length) (hl : ∀ b, inP lv pv ov rv b → b < w0.heap.size) {rv2 : Value} {O2 : List Nat} {R2 : List Rm} (q1 : PrM w' base pb lv pv ov rv2 L P O2 R2) (q2 : CutR n P O' R' (gN Tc i) O2 R2) (q3 : Kept (fun b => inP lv pv ov rv' b ∨ b = pb) w w') (q4 : ∀ b, rv2.ownBlock = some b → rv'.ownBlock = some b ∨ w.heap.size ≤ b) :
    SpC n base pb lv pv ov rv L P O R w0 tv Tc (i + 1) rv2 O2 R2 w' := by
  have hm : gN Tc i ∈ Tc := by rw [gN_lt hi]; exact List.getElem_mem hi
  have h1 := (ht.1 _).1 hm
  have hd : ¬ ∃ j, j < i ∧ gN Tc j = gN Tc i := fun ⟨j, hj, e⟩ => by
    rw [gN_lt hi, gN_lt (show j < Tc.length by omega)] at e
    exact (List.pairwise_iff_getElem.1 ht.2 j i (by omega) hi hj) e
  obtain ⟨a, b, _⟩ := h.ct.at h1.1 hd
  have hdn : ∀ k, ((∃ j, j < i ∧ gN Tc j = k) ∨ k = gN Tc i) ↔ ∃ j, j < i + 1 ∧ gN Tc j = k := fun k => by
    refine ⟨fun hh => ?_, fun ⟨j, hj, e⟩ => ?_⟩
    · rcases hh with ⟨j, hj, e⟩ | e
      · exact ⟨j, by omega, e⟩
      · exact ⟨i, by omega, e.symm⟩
    · by_cases e2 : j = i
      · exact .inr (by rw [← e, e2])
      · exact .inl ⟨j, by omega, e⟩
  refine ⟨q1, ?_, ?_, ?_, ?_, hi⟩
  · unfold CutR at q2
    rw [b] at q2
    rcases q2 with ⟨c1, rfl, rfl⟩ | ⟨c1, x, y, u, v, c2, c3, c4, rfl⟩
    · exact (h.ct.full h1.1 hd c1).dn hdn
    · exact (h.ct.two h1.1 hd h1.2 c1 c2 c3 c4).dn hdn
  · have ow : w.ownsRow w0.heap.size 3 1 tv Tc.length (nCells Tc) := h.ow
    refine own_kept h.ow q3 (fun k hk hf => ?_)
    have hge := (World.ownsRow.lt ow k hk).1
    rcases hf with hf | hf
    · rcases hf with hf | hf | hf | hf
      · have := hl k (.inl hf); omega
      · have := hl k (.inr (.inl hf)); omega
      · have := hl k (.inr (.inr (.inl hf))); omega
      · exact own_ne ow (show w.ownsRow base 164 3 rv' R'.length (rCells R') from h.pr.own) (by decide) k hk hf
    · obtain ⟨cs, hc⟩ := own_ty ow k hk
      rw [hf, h.pr.blk] at hc
      simp at hc
  · refine h.kp.trans_new q3 (fun k hk hf => ?_)
    rcases hf with hf | hf
    · rcases hf with hf | hf | hf | hf
      · exact .inl (.inl hf)
      · exact .inl (.inr (.inl hf))
      · exact .inl (.inr (.inr (.inl hf)))
      · rcases h.rb k hf with h9 | h9
        · exact .inl (.inr (.inr (.inr h9)))
        · omega
    · exact .inr hf
  · intro k hk
    rcases q4 k hk with h9 | h9
    · exact h.rb k h9
    · exact .inr (Nat.le_trans h.kp.size h9)
end
/-- What split tells. -/
structure SpD (n W c : Nat) (NX T : List Nat) (base pb : Nat) (lv pv ov rv : Value) (O : List Nat) (R : List Rm) (rv' : Value) (L' P' O' : List Nat) (R' : List Rm) (w0 w : World) : Prop where
  pr : PrM w base pb lv pv ov rv' L' P' O' R'
  pt : PtS n L' P' O' R'
  pl : Plain R'
  ml : R.length ≤ R'.length
  kn : ∀ s, s < n → gN O' s = gN O s ∨ R.length ≤ gN O' s
  iff : ∀ s, s < n → ∀ t, t < n → (gN O' s = gN O' t ↔ gN O s = gN O t ∧ ((∃ j, j < T.length ∧ gN NX (s * W + c) = gN T j) ↔ ∃ j, j < T.length ∧ gN NX (t * W + c) = gN T j))
  kp : Kept (fun b => inP lv pv ov rv b ∨ b = pb) w0 w
  rb : ∀ b, rv'.ownBlock = some b → rv.ownBlock = some b ∨ w0.heap.size ≤ b
end Go.Proofs.YtdgoilkgplnhfaaGreat
