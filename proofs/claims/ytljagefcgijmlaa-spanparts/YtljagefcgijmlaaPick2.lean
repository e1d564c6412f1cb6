/-
  picked by its contract. Conditions: lists of at most 2^32 spans each, at most 2^31 lists.
-/
import Derived.Test.YtljagefcgijmlaaPick
namespace Go.Proofs.Ytljagefcgijmlaa
open Go.RowKit Go.Lib

/-- A loop over pieces: how many numbers are left, and whether a piece is at hand. -/
def togo (bl : Nat) (m : Value) (w : World) : Nat := (4294967296 - intOf ((w.cell? ⟨bl, 0, none⟩).getD undef)).toNat + (match m with | .bool true => 1 | _ => 0)

/-- What picked holds in its loop: a piece is at hand, or all are through. -/
structure PkSt (f : List Bool → Bool) (b0 b1 : Nat) (S : List (List Spn)) (bl bm be bi bn ib : Nat) (t : GT) (o : Value) (pb : Nat) (lo hi : Int) (ins : List Bool) (es : List End) (e : End) (M : List Spn) (w wr : World) : Prop where
  pat : PAt b0 b1 S bl bm be bi bn ib t wr (hi + 1) ins es e
  pc : Piece S lo hi ins
  pbl : wr.heap[pb]? = some (.cells #[.int .i64 lo, .int .i64 hi, .slice (some ⟨ib, 0, none⟩) S.length S.length] 66 (0, 0))
  pnew : b1 ≤ pb
  own : OwnS wr b1 o M
  upto : Upto f S lo M
  below : Below b0 w wr
structure PkEnd (f : List Bool → Bool) (b0 b1 : Nat) (S : List (List Spn)) (o : Value) (M : List Spn) (w wr : World) : Prop where
  own : OwnS wr b1 o M
  upto : Upto f S 4294967296 M
  below : Below b0 w wr

theorem OwnS.ne {w : World} {base pb : Nat} {v : Value} {L : List Spn} {cs : Array Value} {T : TypeId} (h : OwnS w base v L) (hp : w.heap[pb]? = some (.cells cs T (0, 0))) (hT : T ≠ 46) : v.ownBlock ≠ some pb := by
  intro he
  rcases h.2 with ⟨rfl, _⟩ | ⟨g, cap, cur, rfl, hb, hg, r⟩
  · cases he
  · cases he
    rw [hg] at hp
    simp at hp
    exact hT hp.2.symm

theorem three_block {w : World} {b : Nat} {p q r : Value} {T : TypeId} (h : w.heap[b]? = some (.cells #[p, q, r] T (0, 0))) (u1 u2 u3 : Value) : (((w.setCell ⟨b, 0, none⟩ u1).setCell ⟨b, 1, none⟩ u2).setCell ⟨b, 2, none⟩ u3).heap[b]? = some (.cells #[u1, u2, u3] T (0, 0)) :=
  (block_setCell (block_setCell (block_setCell h 0 u1) 1 u2) 2 u3).trans rfl
theorem three_kept (w : World) (b : Nat) (u1 u2 u3 : Value) : Kept (fun k => k = b) w (((w.setCell ⟨b, 0, none⟩ u1).setCell ⟨b, 1, none⟩ u2).setCell ⟨b, 2, none⟩ u3) :=
  (((Kept.refl (fun k => k = b) w).setCell (p := ⟨b, 0, none⟩) rfl _).setCell (p := ⟨b, 1, none⟩) rfl _).setCell (p := ⟨b, 2, none⟩) rfl _

set_option maxRecDepth 100000 in
set_option maxHeartbeats 4000000 in
theorem picked_any (g : Nat) (f : List Bool → Bool) (ao : Option Addr) (cap : Nat) (S : List (List Spn)) (w : World) (hw : Wants g f S.length) (hat : SsAt w.heap.size w ao S) (hok : LensOk S) (hcap : S.length ≤ cap) (hlen : S.length ≤ 2147483648) :
    Calls Try.prog 47 #[.func (.func g) #[] #[], .slice ao S.length cap] w fun e w' => Below w.heap.size w w' ∧
      (((∀ L ∈ S, IsSet L) ∧ ∃ v M, e = .returned (.tuple #[v, .int .i64 0]) ∧ OwnS w' w.heap.size v M ∧ Upto f S 4294967296 M) ∨
       ((¬ ∀ L ∈ S, IsSet L) ∧ e = .returned (.tuple #[.slice none 0 0, .int .i64 1]))) := by
  obtain ⟨eg, hwant⟩ := hw
  have hr := allRight_any ao cap S w (by omega) hok hat
  by_cases hall : ∀ L ∈ S, IsSet L
  · rw [decide_eq_true hall] at hr
    have hsets : SetsOk S := fun L hL => ⟨hall L hL, hok L hL⟩
    have hpc := fun (w1 : World) (h1 : Below w.heap.size w w1) => pieces_any ao cap S w1 (by
      have := hat.below h1
      rcases this with h | ⟨b, off, e, hb, hc⟩
      · exact .inl h
      · refine .inr ⟨b, off, e, Nat.lt_of_lt_of_le hb h1.size, fun i hi => ?_⟩
        obtain ⟨ai, ci, q1, q2, q3⟩ := hc i hi
        exact ⟨ai, ci, q1, q2, fun x hx => Nat.lt_of_lt_of_le (q3 x hx) h1.size⟩) hsets hcap hlen
    have HALL := hide hall
    have e65 : ∀ args w, (callFunc 65 args).run Try.prog w = .ok (.enter 65 args) w := enters_of Try.func65 (by kernel_rfl) rfl
    clear hat hall hsets
    go_enter Try.func47, Try.ntmps47
    go_wp2_with (first | (go_at_call 53; refine hr.mono ?_; rintro e w1 ⟨rfl, x1⟩; have X1 := hide x1; clear x1) | (go_at_call 54; refine (hpc _ X1.out).mono ?_; rintro e w2 ⟨bl, bm, be, bi, bn, ib, t, es, x, rfl, p2, x2⟩; have P2 := hide p2; have X2 := hide x2; clear p2 x2) | (go_at_call 65; refine (piece_any _ _ S bl bm be bi bn ib t w2 0 _ es x P2.out (by decide)).mono ?_; rintro e w3 ⟨hi, ins, es3, x3, rfl, p3, pc3, ed3, k3⟩; have P3 := hide p3; have PC3 := hide pc3; have K3 := hide k3; clear p3 pc3 ed3 k3))
    have hs12 : w.heap.size ≤ w1.heap.size := X1.out.size
    have hs2 : w1.heap.size ≤ w2.heap.size := X2.out.size
    have hs3 : w2.heap.size ≤ w3.heap.size := K3.out.size
    have st0 : PkSt f w1.heap.size w2.heap.size S bl bm be bi bn ib t (.slice none 0 0) w3.heap.size 0 hi ins es3 x3 [] w1 (w3.alloc (.cells #[.int .i64 0, .int .i64 hi, .slice (some ⟨ib, 0, none⟩) S.length S.length] 66)) := by
      have ka : Below w3.heap.size w3 (w3.alloc (.cells #[.int .i64 0, .int .i64 hi, .slice (some ⟨ib, 0, none⟩) S.length S.length] 66)) := (Below.refl _ _).alloc (Nat.le_refl _) _
      exact ⟨P3.out.kept (F := fun _ => False) (Kept.of_below ka) (fun _ _ h => h), PC3.out, heap_alloc_new w3 _, hs3, OwnS.nil _ _, Upto.start f S, (X2.out.trans (K3.out.below hs2 (fun i hi => hi.1))).trans (ka.mono (by omega))⟩
    have ST0 := hide st0
    clear st0 hr hpc
    go_loopw [6, 8, 9] (fun o p m wr => (∃ pb lo hi ins es e M, p = .pointer (some ⟨pb, 0, none⟩) ∧ m = .bool true ∧ PkSt f w1.heap.size w2.heap.size S bl bm be bi bn ib t o pb lo hi ins es e M w1 wr) ∨ (∃ M, m = .bool false ∧ PkEnd f w1.heap.size w2.heap.size S o M w1 wr)) (fun _ _ m wr => togo bl m wr)
    case atStart => exact .inl ⟨_, _, _, _, _, _, _, rfl, rfl, ST0.out⟩
    case round =>
      clear ST0
      rcases hrel with ⟨pb, lo, hi, ins, es, e, M, rfl, rfl, st⟩ | ⟨M, rfl, st⟩
      · have n0 := st.pbl
        have lpb := lt_of_block n0
        have c0 : wr.cell? ⟨pb, 0, none⟩ = some (.int .i64 lo) := by rw [cell_of_row wr _ 0 _ _ _ n0]; rfl
        have c1 : wr.cell? ⟨pb, 1, none⟩ = some (.int .i64 hi) := by rw [cell_of_row wr _ 1 _ _ _ n0]; rfl
        have c2 : wr.cell? ⟨pb, 2, none⟩ = some (.slice (some ⟨ib, 0, none⟩) S.length S.length) := by rw [cell_of_row wr _ 2 _ _ _ n0]; rfl
        have hcw := hwant wr ib ins (by rw [st.pat.inv.len]) st.pat.bc
        have ST := hide st
        have hM := isSet_length st.upto.set
        have hup := st.upto.step st.pc
        have HUP := hide hup
        have HM0 : Hid (togo bl (.bool true) wr = (4294967296 - (hi + 1)).toNat + 1) := by
          unfold Hid togo
          rw [cell_of_one st.pat.lc]
          rfl
        have hrng := st.pat.inv.rng
        have hpl := st.pc.le
        have hp0 := st.pc.low
        have hp1 := st.pc.top
        have hle1 := st.pat.le
        -- behind joined: o', M'
        have step : ∀ (o' : Value) (M' : List Spn) (w5 : World), OwnS w5 w2.heap.size o' M' → Upto f S (hi + 1) M' → Kept (isRow u6) wr w5 → PAt w1.heap.size w2.heap.size S bl bm be bi bn ib t w5 (hi + 1) ins es e ∧ w5.heap[pb]? = some (.cells #[.int .i64 lo, .int .i64 hi, .slice (some ⟨ib, 0, none⟩) S.length S.length] 66 (0, 0)) ∧ Below w1.heap.size w1 w5 ∧ w2.heap.size ≤ w5.heap.size := by
          intro o' M' w5 _ _ k5
          have hF : ∀ k, k < w2.heap.size → ¬ isRow u6 k := fun k hk hr => by have := (ST.out.own.lt k hr).1; omega
          exact ⟨ST.out.pat.kept k5 hF, (k5.block pb lpb (ST.out.own.ne ST.out.pbl (by decide))).trans ST.out.pbl, ST.out.below.trans (k5.below (by omega) (fun i hi => by have := (ST.out.own.lt i hi).1; omega)), by have := k5.size; omega⟩
        have HSTEP := hide step
        clear st hup n0 step
        by_cases hf : f ins = true
        · rw [hf] at hcw
          rw [if_pos hf] at HUP
          have hcj := joined_any wr w2.heap.size u6 M (lo, hi) ST.out.own hle1 (by omega) (take_last ST.out.upto.set)
          go_wp2_with (first | (go_at_fn g; refine hcw.mono ?_; rintro e2 w4 ⟨rfl, hw4⟩; have hw5 := hw4.symm; subst hw5) | (go_at_call 43; refine hcj.mono ?_; rintro e2 w5 ⟨v5, rfl, o5, k5, _⟩; obtain ⟨a1, a2, a3, a4⟩ := HSTEP.out v5 _ w5 o5 HUP.out k5; have d0 := (cell_of_row w5 pb 0 _ _ _ a2); have d1 := (cell_of_row w5 pb 1 _ _ _ a2); have d2 := (cell_of_row w5 pb 2 _ _ _ a2); simp at d0 d1 d2; have O5 := hide o5; have A1 := hide a1; have A2 := hide a2; have A3 := hide a3; clear o5 k5 a1 a2 a3) | (go_at_call 65; skip; fail))
          have hsz : w2.heap.size ≤ w5.heap.size := by omega
          obtain ⟨W, hW⟩ : ∃ W, w5.alloc (.cells #[.int .i64 lo, .int .i64 hi, .slice (some ⟨ib, 0, none⟩) S.length S.length] 66) = W := ⟨_, rfl⟩
          have kW : Below w5.heap.size w5 W := by rw [← hW]; exact (Below.refl _ _).alloc (Nat.le_refl _) _
          have nW : W.heap[w5.heap.size]? = some (.cells #[.int .i64 lo, .int .i64 hi, .slice (some ⟨ib, 0, none⟩) S.length S.length] 66 (0, 0)) := by rw [← hW]; exact heap_alloc_new w5 _
          have lW := lt_of_block nW
          have pW := A1.out.kept (F := fun _ => False) (Kept.of_below kW) (fun _ _ h => h)
          have oW := O5.out.below kW
          have bW : Below w1.heap.size w1 W := A3.out.trans (kW.mono (by omega))
          rw [hW]
          by_cases hmax : hi + 1 ≤ 4294967295
          · refine (piece_any _ _ S bl bm be bi bn ib t W (hi + 1) ins es e pW hmax).mono ?_
            rintro e2 w7 ⟨hi2, ins2, es2, x2, rfl, p7, pc7, _, k7⟩
            have n7 := (k7.block _ lW (fun hf => by unfold Fp at hf; omega)).trans nW
            have o7 := oW.kept k7 (fun k hk hf => by have := (oW.lt k hk).1; unfold Fp at hf; omega)
            have b7 : Below w1.heap.size w1 w7 := bW.trans (k7.below (by omega) (fun i hi => hi.1))
            have g0 : w7.cell? ⟨w5.heap.size, 0, none⟩ = some (.int .i64 lo) := by rw [cell_of_row w7 _ 0 _ _ _ n7]; rfl
            have g1 : w7.cell? ⟨w5.heap.size, 1, none⟩ = some (.int .i64 hi) := by rw [cell_of_row w7 _ 1 _ _ _ n7]; rfl
            have g2 : w7.cell? ⟨w5.heap.size, 2, none⟩ = some (.slice (some ⟨ib, 0, none⟩) S.length S.length) := by rw [cell_of_row w7 _ 2 _ _ _ n7]; rfl
            have g0' := frozen_of_row w7 w5.heap.size 0 _ _ n7
            have g1' := frozen_of_row w7 w5.heap.size 1 _ _ n7
            have g2' := frozen_of_row w7 w5.heap.size 2 _ _ n7
            have P7 := hide p7
            have PC7 := hide pc7
            have N7 := hide n7
            have O7 := hide o7
            have B7 := hide b7
            clear p7 pc7 n7 o7 b7 k7 hW
            go_wp2
            have k8 := three_kept w7 w5.heap.size (.int .i64 (hi + 1)) (.int .i64 hi2) (.slice (some ⟨ib, 0, none⟩) S.length S.length)
            have n8 := three_block N7.out (.int .i64 (hi + 1)) (.int .i64 hi2) (.slice (some ⟨ib, 0, none⟩) S.length S.length)
            have p8 := P7.out.kept k8 (fun k hk hf => by omega)
            have o8 := O7.out.kept k8 (fun k hk hf => by subst hf; exact O7.out.ne N7.out (by decide) hk)
            have b8 := B7.out.trans (k8.below (by have := B7.out.size; omega) (fun i hi => by omega))
            go_roundw
            case rel => exact .inl ⟨w5.heap.size, hi + 1, hi2, ins2, es2, x2, (joinL M (lo, hi)), rfl, rfl, ⟨p8, PC7.out, n8, hsz, o8, HUP.out, b8⟩⟩
            case measure =>
              have := HM0.out
              have e9 : ∀ mm ww, ww.cell? ⟨bl, 0, none⟩ = some (.int .i64 (hi2 + 1)) → togo bl mm ww = (4294967296 - (hi2 + 1)).toNat + (match mm with | .bool true => 1 | _ => 0) := fun mm ww hh => by unfold togo; rw [hh]; rfl
              have q1 := PC7.out.le
              have q2 := PC7.out.top
              rw [show togo bl _ wr = _ from HM0.out]
              refine Nat.lt_of_le_of_lt (Nat.le_of_eq (e9 _ _ (cell_of_one p8.lc))) ?_
              simp
              omega
          · have hend : hi + 1 = 4294967296 := by omega
            refine (piece_done _ _ S bl bm be bi bn ib t W (hi + 1) ins es e pW (by omega)).mono ?_
            rintro e2 w7 ⟨rfl, k7⟩
            have n7 := (k7.block _ lW).trans nW
            have o7 := oW.below k7
            have b7 : Below w1.heap.size w1 w7 := bW.trans (k7.mono (by have := bW.size; omega))
            have p7 := pW.kept (F := fun _ => False) (Kept.of_below k7) (fun _ _ h => h)
            have g0 : w7.cell? ⟨w5.heap.size, 0, none⟩ = some (.int .i64 lo) := by rw [cell_of_row w7 _ 0 _ _ _ n7]; rfl
            have g1 : w7.cell? ⟨w5.heap.size, 1, none⟩ = some (.int .i64 hi) := by rw [cell_of_row w7 _ 1 _ _ _ n7]; rfl
            have g2 : w7.cell? ⟨w5.heap.size, 2, none⟩ = some (.slice (some ⟨ib, 0, none⟩) S.length S.length) := by rw [cell_of_row w7 _ 2 _ _ _ n7]; rfl
            have g0' := frozen_of_row w7 w5.heap.size 0 _ _ n7
            have g1' := frozen_of_row w7 w5.heap.size 1 _ _ n7
            have g2' := frozen_of_row w7 w5.heap.size 2 _ _ n7
            have P7 := hide p7
            have N7 := hide n7
            have O7 := hide o7
            have B7 := hide b7
            clear p7 n7 o7 b7 k7 hW
            go_wp2
            have k8 := three_kept w7 w5.heap.size (.int .i64 0) (.int .i64 0) (.slice none 0 0)
            have p8 := P7.out.kept k8 (fun k hk hf => by omega)
            have o8 := O7.out.kept k8 (fun k hk hf => by subst hf; exact O7.out.ne N7.out (by decide) hk)
            have b8 := B7.out.trans (k8.below (by have := B7.out.size; omega) (fun i hi => by omega))
            have up8 := HUP.out
            rw [hend] at up8
            go_roundw
            case rel => exact .inr ⟨(joinL M (lo, hi)), rfl, ⟨o8, up8, b8⟩⟩
            case measure =>
              have e9 : ∀ mm ww, ww.cell? ⟨bl, 0, none⟩ = some (.int .i64 (hi + 1)) → togo bl mm ww = (4294967296 - (hi + 1)).toNat + (match mm with | .bool true => 1 | _ => 0) := fun mm ww hh => by unfold togo; rw [hh]; rfl
              rw [show togo bl _ wr = _ from HM0.out]
              refine Nat.lt_of_le_of_lt (Nat.le_of_eq (e9 _ _ (cell_of_one p8.lc))) ?_
              simp
        · rw [Bool.not_eq_true] at hf
          rw [hf] at hcw
          rw [if_neg (by rw [hf]; decide)] at HUP
          have O5 := hide ST.out.own
          have A1 := hide ST.out.pat
          have A3 := hide ST.out.below
          go_wp2_with (first | (go_at_fn g; refine hcw.mono ?_; rintro e2 w4 ⟨rfl, hw4⟩; have hw5 := hw4.symm; subst hw5) | (go_at_call 65; skip; fail))
          have hsz : w2.heap.size ≤ wr.heap.size := by omega
          obtain ⟨W, hW⟩ : ∃ W, wr.alloc (.cells #[.int .i64 lo, .int .i64 hi, .slice (some ⟨ib, 0, none⟩) S.length S.length] 66) = W := ⟨_, rfl⟩
          have kW : Below wr.heap.size wr W := by rw [← hW]; exact (Below.refl _ _).alloc (Nat.le_refl _) _
          have nW : W.heap[wr.heap.size]? = some (.cells #[.int .i64 lo, .int .i64 hi, .slice (some ⟨ib, 0, none⟩) S.length S.length] 66 (0, 0)) := by rw [← hW]; exact heap_alloc_new wr _
          have lW := lt_of_block nW
          have pW := A1.out.kept (F := fun _ => False) (Kept.of_below kW) (fun _ _ h => h)
          have oW := O5.out.below kW
          have bW : Below w1.heap.size w1 W := A3.out.trans (kW.mono (by omega))
          rw [hW]
          by_cases hmax : hi + 1 ≤ 4294967295
          · refine (piece_any _ _ S bl bm be bi bn ib t W (hi + 1) ins es e pW hmax).mono ?_
            rintro e2 w7 ⟨hi2, ins2, es2, x2, rfl, p7, pc7, _, k7⟩
            have n7 := (k7.block _ lW (fun hf => by unfold Fp at hf; omega)).trans nW
            have o7 := oW.kept k7 (fun k hk hf => by have := (oW.lt k hk).1; unfold Fp at hf; omega)
            have b7 : Below w1.heap.size w1 w7 := bW.trans (k7.below (by omega) (fun i hi => hi.1))
            have g0 : w7.cell? ⟨wr.heap.size, 0, none⟩ = some (.int .i64 lo) := by rw [cell_of_row w7 _ 0 _ _ _ n7]; rfl
            have g1 : w7.cell? ⟨wr.heap.size, 1, none⟩ = some (.int .i64 hi) := by rw [cell_of_row w7 _ 1 _ _ _ n7]; rfl
            have g2 : w7.cell? ⟨wr.heap.size, 2, none⟩ = some (.slice (some ⟨ib, 0, none⟩) S.length S.length) := by rw [cell_of_row w7 _ 2 _ _ _ n7]; rfl
            have g0' := frozen_of_row w7 wr.heap.size 0 _ _ n7
            have g1' := frozen_of_row w7 wr.heap.size 1 _ _ n7
            have g2' := frozen_of_row w7 wr.heap.size 2 _ _ n7
            have P7 := hide p7
            have PC7 := hide pc7
            have N7 := hide n7
            have O7 := hide o7
            have B7 := hide b7
            clear p7 pc7 n7 o7 b7 k7 hW
            go_wp2
            have k8 := three_kept w7 wr.heap.size (.int .i64 (hi + 1)) (.int .i64 hi2) (.slice (some ⟨ib, 0, none⟩) S.length S.length)
            have n8 := three_block N7.out (.int .i64 (hi + 1)) (.int .i64 hi2) (.slice (some ⟨ib, 0, none⟩) S.length S.length)
            have p8 := P7.out.kept k8 (fun k hk hf => by omega)
            have o8 := O7.out.kept k8 (fun k hk hf => by subst hf; exact O7.out.ne N7.out (by decide) hk)
            have b8 := B7.out.trans (k8.below (by have := B7.out.size; omega) (fun i hi => by omega))
            go_roundw
            case rel => exact .inl ⟨wr.heap.size, hi + 1, hi2, ins2, es2, x2, M, rfl, rfl, ⟨p8, PC7.out, n8, hsz, o8, HUP.out, b8⟩⟩
            case measure =>
              have := HM0.out
              have e9 : ∀ mm ww, ww.cell? ⟨bl, 0, none⟩ = some (.int .i64 (hi2 + 1)) → togo bl mm ww = (4294967296 - (hi2 + 1)).toNat + (match mm with | .bool true => 1 | _ => 0) := fun mm ww hh => by unfold togo; rw [hh]; rfl
              have q1 := PC7.out.le
              have q2 := PC7.out.top
              rw [show togo bl _ wr = _ from HM0.out]
              refine Nat.lt_of_le_of_lt (Nat.le_of_eq (e9 _ _ (cell_of_one p8.lc))) ?_
              simp
              omega
          · have hend : hi + 1 = 4294967296 := by omega
            refine (piece_done _ _ S bl bm be bi bn ib t W (hi + 1) ins es e pW (by omega)).mono ?_
            rintro e2 w7 ⟨rfl, k7⟩
            have n7 := (k7.block _ lW).trans nW
            have o7 := oW.below k7
            have b7 : Below w1.heap.size w1 w7 := bW.trans (k7.mono (by have := bW.size; omega))
            have p7 := pW.kept (F := fun _ => False) (Kept.of_below k7) (fun _ _ h => h)
            have g0 : w7.cell? ⟨wr.heap.size, 0, none⟩ = some (.int .i64 lo) := by rw [cell_of_row w7 _ 0 _ _ _ n7]; rfl
            have g1 : w7.cell? ⟨wr.heap.size, 1, none⟩ = some (.int .i64 hi) := by rw [cell_of_row w7 _ 1 _ _ _ n7]; rfl
            have g2 : w7.cell? ⟨wr.heap.size, 2, none⟩ = some (.slice (some ⟨ib, 0, none⟩) S.length S.length) := by rw [cell_of_row w7 _ 2 _ _ _ n7]; rfl
            have g0' := frozen_of_row w7 wr.heap.size 0 _ _ n7
            have g1' := frozen_of_row w7 wr.heap.size 1 _ _ n7
            have g2' := frozen_of_row w7 wr.heap.size 2 _ _ n7
            have P7 := hide p7
            have N7 := hide n7
            have O7 := hide o7
            have B7 := hide b7
            clear p7 n7 o7 b7 k7 hW
            go_wp2
            have k8 := three_kept w7 wr.heap.size (.int .i64 0) (.int .i64 0) (.slice none 0 0)
            have p8 := P7.out.kept k8 (fun k hk hf => by omega)
            have o8 := O7.out.kept k8 (fun k hk hf => by subst hf; exact O7.out.ne N7.out (by decide) hk)
            have b8 := B7.out.trans (k8.below (by have := B7.out.size; omega) (fun i hi => by omega))
            have up8 := HUP.out
            rw [hend] at up8
            go_roundw
            case rel => exact .inr ⟨M, rfl, ⟨o8, up8, b8⟩⟩
            case measure =>
              have e9 : ∀ mm ww, ww.cell? ⟨bl, 0, none⟩ = some (.int .i64 (hi + 1)) → togo bl mm ww = (4294967296 - (hi + 1)).toNat + (match mm with | .bool true => 1 | _ => 0) := fun mm ww hh => by unfold togo; rw [hh]; rfl
              rw [show togo bl _ wr = _ from HM0.out]
              refine Nat.lt_of_le_of_lt (Nat.le_of_eq (e9 _ _ (cell_of_one p8.lc))) ?_
              simp
      · have ST := hide st
        clear st
        go_wp2
        go_ret2
        exact ⟨X1.out.trans (ST.out.below.mono hs12), .inl ⟨HALL.out, u6, M, rfl, ST.out.own.mono (by omega), ST.out.upto⟩⟩
  · rw [decide_eq_false hall] at hr
    have HALL := hide hall
    clear hat hall
    go_enter Try.func47, Try.ntmps47
    go_wp2_with (go_at_call 53; refine hr.mono ?_; rintro e w1 ⟨rfl, x1⟩; have X1 := hide x1; clear x1)
    go_ret2
    exact ⟨X1.out, .inr ⟨HALL.out, rfl⟩⟩
end Go.Proofs.Ytljagefcgijmlaa
