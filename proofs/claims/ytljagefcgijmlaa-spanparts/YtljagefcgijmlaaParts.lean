/-
  Parts by its contract. Conditions: lists of at most 2^32 spans each, at most 2^31 lists.
-/
import Derived.Test.YtljagefcgijmlaaPart
namespace Go.Proofs.Ytljagefcgijmlaa
open Go.RowKit Go.Lib

/-- What Parts holds in its loop: a piece is at hand, or all are through. -/
structure PtSt (b0 b1 : Nat) (S : List (List Spn)) (bl bm be bi bn ib : Nat) (t : GT) (o : Value) (pb : Nat) (lo hi : Int) (ins : List Bool) (es : List End) (e : End) (P : List PartD) (w wr : World) : Prop where
  pat : PAt b0 b1 S bl bm be bi bn ib t wr (hi + 1) ins es e
  pc : Piece S lo hi ins
  edge : Edge S lo
  edge2 : Edge S (hi + 1)
  pbl : wr.heap[pb]? = some (.cells #[.int .i64 lo, .int .i64 hi, .slice (some ⟨ib, 0, none⟩) S.length S.length] 66 (0, 0))
  pnew : b1 ≤ pb
  own : OwnP wr b1 o P
  parts : PParts S lo (bare P)
  below : Below b0 w wr
structure PtEnd (b0 b1 : Nat) (S : List (List Spn)) (o : Value) (P : List PartD) (w wr : World) : Prop where
  own : OwnP wr b1 o P
  parts : PParts S 4294967296 (bare P)
  below : Below b0 w wr
theorem new_part (w0 : World) (s : Spn) (v : Value) (b : Nat) (hb : b = w0.heap.size) : ∀ j u, ([.int .i64 s.1, .int .i64 s.2, v] : List Value)[j]? = some u → (w0.alloc (.cells #[.int .i64 s.1, .int .i64 s.2, v] 50)).cell? ((⟨b, 0, none⟩ : Addr).add j) = some u := by
  subst hb
  intro j u hu
  match j, hu with
  | 0, hu => simp at hu; subst hu; simp [Addr.add]
  | 1, hu => simp at hu; subst hu; simp [Addr.add]
  | 2, hu => simp at hu; subst hu; simp [Addr.add]
theorem bare_length (P : List PartD) : (bare P).length = P.length := by simp [bare]
theorem bare_snoc (P : List PartD) (p : PartD) : bare (P ++ [p]) = bare P ++ [(p.s, p.I)] := by simp [bare]

theorem pt_far {w4 w6 wr : World} {b1 pb off : Nat} {o : Value} {P : List PartD} {x : Value} {cs : Array Value} {ob : Obj} (h2 : (w4.alloc ob).grownBy w6 o.ownBlock) (hp : OwnP (w4.alloc ob) b1 o P) (hl : pb < w4.heap.size) (hpb : wr.heap[pb]? = some (.cells cs 66 (0, 0))) (bb : Below wr.heap.size wr (w4.alloc ob)) (hl2 : pb < wr.heap.size)
    (hc : w4.cell? ⟨pb, off, none⟩ = some x) : w6.cell? ⟨pb, off, none⟩ = some x := by
  have ne : some pb ≠ o.ownBlock := fun he => by
    obtain ⟨_, _, cs', t3⟩ := hp.tag he.symm
    rw [bb.block pb hl2, hpb] at t3
    simp at t3
  rw [World.cell?_of_block (w := w4.alloc ob) (h2.block pb (by simp; omega) ne), World.cell?_alloc_past _ _ _ hl]
  exact hc

/-- What Parts tells. -/
def ToldP (S : List (List Spn)) (w : World) (e : Ending) (w' : World) : Prop := Below w.heap.size w w' ∧
  (((S.length ≤ 128 ∧ ∀ L ∈ S, IsSet L) ∧ ∃ v P, e = .returned (.tuple #[v, .int .i64 0]) ∧ OwnP w' w.heap.size v P ∧ PParts S 4294967296 (bare P)) ∨
   ((¬ (S.length ≤ 128 ∧ ∀ L ∈ S, IsSet L)) ∧ e = .returned (.tuple #[.slice none 0 0, .int .i64 1])))

set_option maxRecDepth 100000 in
set_option maxHeartbeats 4000000 in
theorem parts_any (ao : Option Addr) (cap : Nat) (S : List (List Spn)) (w : World) (hat : SsAt w.heap.size w ao S) (hok : LensOk S) (hcap : S.length ≤ cap) (hlen : S.length ≤ 140737488351232) :
    Calls Try.prog 30 #[.slice ao S.length cap] w fun e w' => ToldP S w e w' := by
  by_cases h128 : S.length ≤ 128
  · have hr := allRight_any ao cap S w (by omega) hok hat
    by_cases hall : ∀ L ∈ S, IsSet L
    · rw [decide_eq_true hall] at hr
      have hsets : SetsOk S := fun L hL => ⟨hall L hL, hok L hL⟩
      have hpc := fun (w1 : World) (h1 : Below w.heap.size w w1) => pieces_any ao cap S w1 (by
        have := hat.below h1
        rcases this with h | ⟨b, off, e, hb, hc⟩
        · exact .inl h
        · refine .inr ⟨b, off, e, Nat.lt_of_lt_of_le hb h1.size, fun i hi => ?_⟩
          obtain ⟨ai, ci, q1, q2, q3⟩ := hc i hi
          exact ⟨ai, ci, q1, q2, fun x hx => Nat.lt_of_lt_of_le (q3 x hx) h1.size⟩) hsets hcap (by omega)
      obtain ⟨i0, hi0, hz0, hz1, hz2⟩ := info_parts Try.info50
      have HALL := hide hall
      have e65 : ∀ args w, (callFunc 65 args).run Try.prog w = .ok (.enter 65 args) w := enters_of Try.func65 (by kernel_rfl) rfl
      clear hat hall hsets
      go_enter Try.func30, Try.ntmps30
      go_wp2_with (first | (go_at_call 53; refine hr.mono ?_; rintro e w1 ⟨rfl, x1⟩; have X1 := hide x1; clear x1) | (go_at_call 54; refine (hpc _ X1.out).mono ?_; rintro e w2 ⟨bl, bm, be, bi, bn, ib, t, es, x, rfl, p2, x2⟩; have P2 := hide p2; have X2 := hide x2; clear p2 x2) | (go_at_call 65; refine (piece_any _ _ S bl bm be bi bn ib t w2 0 _ es x P2.out (by decide)).mono ?_; rintro e w3 ⟨hi, ins, es3, x3, rfl, p3, pc3, ed3, k3⟩; have P3 := hide p3; have PC3 := hide pc3; have K3 := hide k3; have ED3 := hide ed3; clear p3 pc3 ed3 k3))
      have hs12 : w.heap.size ≤ w1.heap.size := X1.out.size
      have hs2 : w1.heap.size ≤ w2.heap.size := X2.out.size
      have hs3 : w2.heap.size ≤ w3.heap.size := K3.out.size
      have st0 : PtSt w1.heap.size w2.heap.size S bl bm be bi bn ib t (.slice none 0 0) w3.heap.size 0 hi ins es3 x3 [] w1 (w3.alloc (.cells #[.int .i64 0, .int .i64 hi, .slice (some ⟨ib, 0, none⟩) S.length S.length] 66)) := by
        have ka : Below w3.heap.size w3 (w3.alloc (.cells #[.int .i64 0, .int .i64 hi, .slice (some ⟨ib, 0, none⟩) S.length S.length] 66)) := (Below.refl _ _).alloc (Nat.le_refl _) _
        exact ⟨P3.out.kept (F := fun _ => False) (Kept.of_below ka) (fun _ _ h => h), PC3.out, .inl rfl, ED3.out, heap_alloc_new w3 _, hs3, OwnP.nil _ _, PParts.start S, (X2.out.trans (K3.out.below hs2 (fun i hi => hi.1))).trans (ka.mono (by omega))⟩
      have ST0 := hide st0
      clear st0 hr hpc
      go_loopw [4, 6, 7] (fun o p m wr => (∃ pb lo hi ins es e P, p = .pointer (some ⟨pb, 0, none⟩) ∧ m = .bool true ∧ PtSt w1.heap.size w2.heap.size S bl bm be bi bn ib t o pb lo hi ins es e P w1 wr) ∨ (∃ P, m = .bool false ∧ PtEnd w1.heap.size w2.heap.size S o P w1 wr)) (fun _ _ m wr => togo bl m wr)
      case atStart => exact .inl ⟨_, _, _, _, _, _, _, rfl, rfl, ST0.out⟩
      case round =>
        clear ST0
        rcases hrel with ⟨pb, lo, hi, ins, es, e, P, rfl, rfl, st⟩ | ⟨P, rfl, st⟩
        · have n0 := st.pbl
          have lpb := lt_of_block n0
          have c0 : wr.cell? ⟨pb, 0, none⟩ = some (.int .i64 lo) := by rw [cell_of_row wr _ 0 _ _ _ n0]; rfl
          have c1 : wr.cell? ⟨pb, 1, none⟩ = some (.int .i64 hi) := by rw [cell_of_row wr _ 1 _ _ _ n0]; rfl
          have c2 : wr.cell? ⟨pb, 2, none⟩ = some (.slice (some ⟨ib, 0, none⟩) S.length S.length) := by rw [cell_of_row wr _ 2 _ _ _ n0]; rfl
          have hcp := places_any wr.drew ib S.length ins st.pat.inv.len (by omega) st.pat.bc
          have hup := st.parts.step st.pc st.edge
          have hPl : P.length ≤ 4294967296 := by
            have := st.parts.chain.bound
            rw [bare_length] at this
            have := st.pc.top
            have := st.pc.le
            omega
          have HUP := hide hup
          have HM0 : Hid (togo bl (.bool true) wr = (4294967296 - (hi + 1)).toNat + 1) := by
            unfold Hid togo
            rw [cell_of_one st.pat.lc]
            rfl
          have hpl := st.pc.le
          have hp0 := st.pc.low
          have hp1 := st.pc.top
          have hle1 := st.pat.le
          have ST := hide st
          have HCP := hide hcp
          clear st hup n0 hcp
          go_wp2
          go_region_held3 (fun w' => w'.cell? ⟨pb, 0, none⟩ = some (.int .i64 lo) ∧ w'.cell? ⟨pb, 1, none⟩ = some (.int .i64 hi) ∧ w'.cell? ⟨pb, 2, none⟩ = some (.slice (some ⟨ib, 0, none⟩) S.length S.length)) (first | assumption | (simp [go_sem, *]; done)) (first | (go_at_call 55; refine HCP.out.mono ?_; rintro e2 w4 ⟨v4, he, o4, b4⟩; subst he; obtain ⟨a4, cc4, hv4⟩ := o4.shape; subst hv4; have c4 : w4.cell? ⟨pb, 0, none⟩ = some (.int .i64 lo) := ((b4.cell (p := ⟨pb, 0, none⟩) lpb).trans c0); have c5 : w4.cell? ⟨pb, 1, none⟩ = some (.int .i64 hi) := ((b4.cell (p := ⟨pb, 1, none⟩) lpb).trans c1); have c6 : w4.cell? ⟨pb, 2, none⟩ = some (.slice (some ⟨ib, 0, none⟩) S.length S.length) := ((b4.cell (p := ⟨pb, 2, none⟩) lpb).trans c2); have l4 : pb < w4.heap.size := (Nat.lt_of_lt_of_le lpb b4.size); have bb : Below wr.heap.size wr (w4.alloc (.cells #[.int .i64 lo, .int .i64 hi, (.slice a4 (marksTo ins S.length).length cc4)] 50)) := (Below.trans ⟨b4.os, b4.tape, b4.output, b4.size, b4.block⟩ (((Below.refl _ _).alloc (Nat.le_refl _) _).mono b4.size)); have BB := hide bb; have HOP := hide (ST.out.own.below bb); have HOI := hide (o4.below ((Below.refl w4.heap.size w4).alloc (Nat.le_refl _) (.cells #[.int .i64 lo, .int .i64 hi, (.slice a4 (marksTo ins S.length).length cc4)] 50))); have HN := hide (new_part w4 (lo, hi) (.slice a4 (marksTo ins S.length).length cc4) w4.heap.size rfl); clear o4 b4 bb) | (refine step_append_lies _ (by rfl) (.tmp 29) (.tmp 36) 40 (by rfl) w2.heap.size 50 i0 (.agg #[.int .i64 0, .int .i64 0, .slice none 0 0]) 3 40 Try.underlying40 hi0 hz0 hz1 hz2 rfl (by decide) u4 P.length (ptCells P) (by rfl) HOP.out.row ⟨w4.heap.size, 0, none⟩ 1 1 [.int .i64 lo, .int .i64 hi, (.slice a4 (marksTo ins S.length).length cc4)] (by rfl) (by rfl) HN.out (by simp [Value.oneCell']) (by decide) (by unfold maxLen; omega) (by omega) (Nat.le_trans hle1 BB.out.size) _ rfl ?_; intro g cap6 w6 h1 h2 h3 h4; have d4 : w6.cell? ⟨pb, 0, none⟩ = some (.int .i64 lo) := (pt_far h2 HOP.out l4 ST.out.pbl BB.out lpb c4); have d5 : w6.cell? ⟨pb, 1, none⟩ = some (.int .i64 hi) := (pt_far h2 HOP.out l4 ST.out.pbl BB.out lpb c5); have d6 : w6.cell? ⟨pb, 2, none⟩ = some (.slice (some ⟨ib, 0, none⟩) S.length S.length) := (pt_far h2 HOP.out l4 ST.out.pbl BB.out lpb c6); have H1 := hide h1; have H2 := hide h2; clear h1 h2 h3 h4))
          have o6 : OwnP w6 w2.heap.size (.slice (some ⟨g, 0, none⟩) (P.length + 1) cap6) (P ++ [⟨(lo, hi), (.slice a4 (marksTo ins S.length).length cc4), marksTo ins S.length⟩]) := OwnP.snoc (p := ⟨(lo, hi), (.slice a4 (marksTo ins S.length).length cc4), marksTo ins S.length⟩) HOP.out (HOI.out.mono hle1) (fun q hq k h1 h2 => by have h3 := ((ST.out.own.ints q hq).tag h1).2.1; have h4 := (HOI.out.tag h2).1; exact absurd h3 (Nat.not_lt.2 h4)) H1.out H2.out
          have kk6 : Kept (fun k => u4.ownBlock = some k) wr w6 := (Kept.of_below BB.out).grown H2.out (fun k hk => hk)
          have row : ∀ k, u4.ownBlock = some k → w2.heap.size ≤ k := fun k hk => (ST.out.own.tag hk).1
          have a1 := ST.out.pat.kept kk6 (fun k hk hr => by have := row k hr; omega)
          have a3 := ST.out.below.trans (kk6.below (by omega) (fun i hi => by have := row i hi; omega))
          have s6 : wr.heap.size ≤ w6.heap.size := kk6.size
          have hup6 : PParts S (hi + 1) (bare (P ++ [⟨(lo, hi), (.slice a4 (marksTo ins S.length).length cc4), marksTo ins S.length⟩])) := by rw [bare_snoc]; exact HUP.out
          have HUP6 := hide hup6
          have O5 := hide o6
          have A1 := hide a1
          have A3 := hide a3
          have ED2 := hide ST.out.edge2
          clear o6 kk6 row a1 a3 hup6 HUP HOP HOI HN BB H1 H2 ST HCP
          go_wp2_with (fail)
          have hsz : w2.heap.size ≤ w6.heap.size := by omega
          obtain ⟨W, hW⟩ : ∃ W, w6.alloc (.cells #[.int .i64 lo, .int .i64 hi, .slice (some ⟨ib, 0, none⟩) S.length S.length] 66) = W := ⟨_, rfl⟩
          have kW : Below w6.heap.size w6 W := by rw [← hW]; exact (Below.refl _ _).alloc (Nat.le_refl _) _
          have nW : W.heap[w6.heap.size]? = some (.cells #[.int .i64 lo, .int .i64 hi, .slice (some ⟨ib, 0, none⟩) S.length S.length] 66 (0, 0)) := by rw [← hW]; exact heap_alloc_new w6 _
          have lW := lt_of_block nW
          have pW := A1.out.kept (F := fun _ => False) (Kept.of_below kW) (fun _ _ h => h)
          have oW := O5.out.below kW
          have bW : Below w1.heap.size w1 W := A3.out.trans (kW.mono (by omega))
          rw [hW]
          by_cases hmax : hi + 1 ≤ 4294967295
          · refine (piece_any _ _ S bl bm be bi bn ib t W (hi + 1) ins es e pW hmax).mono ?_
            rintro e2 w7 ⟨hi2, ins2, es2, x2, rfl, p7, pc7, ed7, k7⟩
            have n7 := (k7.block _ lW (fun hf => by unfold Fp at hf; omega)).trans nW
            have o7 := oW.kept k7 (fun k hf => .inl hf.2)
            have b7 : Below w1.heap.size w1 w7 := bW.trans (k7.below (by omega) (fun i hi => hi.1))
            have g0 : w7.cell? ⟨w6.heap.size, 0, none⟩ = some (.int .i64 lo) := by rw [cell_of_row w7 _ 0 _ _ _ n7]; rfl
            have g1 : w7.cell? ⟨w6.heap.size, 1, none⟩ = some (.int .i64 hi) := by rw [cell_of_row w7 _ 1 _ _ _ n7]; rfl
            have g2 : w7.cell? ⟨w6.heap.size, 2, none⟩ = some (.slice (some ⟨ib, 0, none⟩) S.length S.length) := by rw [cell_of_row w7 _ 2 _ _ _ n7]; rfl
            have g0' := frozen_of_row w7 w6.heap.size 0 _ _ n7
            have g1' := frozen_of_row w7 w6.heap.size 1 _ _ n7
            have g2' := frozen_of_row w7 w6.heap.size 2 _ _ n7
            have P7 := hide p7
            have PC7 := hide pc7
            have ED7 := hide ed7
            have N7 := hide n7
            have O7 := hide o7
            have B7 := hide b7
            clear p7 pc7 n7 o7 b7 k7 hW ed7
            go_wp2
            have k8 := three_kept w7 w6.heap.size (.int .i64 (hi + 1)) (.int .i64 hi2) (.slice (some ⟨ib, 0, none⟩) S.length S.length)
            have n8 := three_block N7.out (.int .i64 (hi + 1)) (.int .i64 hi2) (.slice (some ⟨ib, 0, none⟩) S.length S.length)
            have p8 := P7.out.kept k8 (fun k hk hf => by omega)
            have o8 := O7.out.kept k8 (fun k hf => by subst hf; exact .inr ⟨_, _, N7.out, by decide, by decide⟩)
            have b8 := B7.out.trans (k8.below (by have := B7.out.size; omega) (fun i hi => by omega))
            go_roundw
            case rel => exact .inl ⟨w6.heap.size, hi + 1, hi2, ins2, es2, x2, (P ++ [⟨(lo, hi), (.slice a4 (marksTo ins S.length).length cc4), marksTo ins S.length⟩]), rfl, rfl, ⟨p8, PC7.out, ED2.out, ED7.out, n8, hsz, o8, HUP6.out, b8⟩⟩
            case measure =>
              have e9 : ∀ mm ww, ww.cell? ⟨bl, 0, none⟩ = some (.int .i64 (hi2 + 1)) → togo bl mm ww = (4294967296 - (hi2 + 1)).toNat + (match mm with | .bool true => 1 | _ => 0) := fun mm ww hh => by unfold togo; rw [hh]; rfl
              have q1 := PC7.out.le
              have q2 := PC7.out.top
              rw [show togo bl _ wr = _ from HM0.out]
              refine Nat.lt_of_le_of_lt (Nat.le_of_eq (e9 _ _ (cell_of_one p8.lc))) ?_
              simp
              omega
          · have hend : hi + 1 = 4294967296 := by omega
            refine (piece_done _ _ S bl bm be bi bn ib t W (hi + 1) ins es e pW (by omega)).mono ?_
            rintro e2 w7 ⟨rfl, k7⟩
            have n7 := (k7.block _ lW).trans nW
            have o7 := oW.below k7
            have b7 : Below w1.heap.size w1 w7 := bW.trans (k7.mono (by have := bW.size; omega))
            have p7 := pW.kept (F := fun _ => False) (Kept.of_below k7) (fun _ _ h => h)
            have g0 : w7.cell? ⟨w6.heap.size, 0, none⟩ = some (.int .i64 lo) := by rw [cell_of_row w7 _ 0 _ _ _ n7]; rfl
            have g1 : w7.cell? ⟨w6.heap.size, 1, none⟩ = some (.int .i64 hi) := by rw [cell_of_row w7 _ 1 _ _ _ n7]; rfl
            have g2 : w7.cell? ⟨w6.heap.size, 2, none⟩ = some (.slice (some ⟨ib, 0, none⟩) S.length S.length) := by rw [cell_of_row w7 _ 2 _ _ _ n7]; rfl
            have g0' := frozen_of_row w7 w6.heap.size 0 _ _ n7
            have g1' := frozen_of_row w7 w6.heap.size 1 _ _ n7
            have g2' := frozen_of_row w7 w6.heap.size 2 _ _ n7
            have P7 := hide p7
            have N7 := hide n7
            have O7 := hide o7
            have B7 := hide b7
            clear p7 n7 o7 b7 k7 hW
            go_wp2
            have k8 := three_kept w7 w6.heap.size (.int .i64 0) (.int .i64 0) (.slice none 0 0)
            have p8 := P7.out.kept k8 (fun k hk hf => by omega)
            have o8 := O7.out.kept k8 (fun k hf => by subst hf; exact .inr ⟨_, _, N7.out, by decide, by decide⟩)
            have b8 := B7.out.trans (k8.below (by have := B7.out.size; omega) (fun i hi => by omega))
            have up8 := HUP6.out
            rw [hend] at up8
            go_roundw
            case rel => exact .inr ⟨(P ++ [⟨(lo, hi), (.slice a4 (marksTo ins S.length).length cc4), marksTo ins S.length⟩]), rfl, ⟨o8, up8, b8⟩⟩
            case measure =>
              have e9 : ∀ mm ww, ww.cell? ⟨bl, 0, none⟩ = some (.int .i64 (hi + 1)) → togo bl mm ww = (4294967296 - (hi + 1)).toNat + (match mm with | .bool true => 1 | _ => 0) := fun mm ww hh => by unfold togo; rw [hh]; rfl
              rw [show togo bl _ wr = _ from HM0.out]
              refine Nat.lt_of_le_of_lt (Nat.le_of_eq (e9 _ _ (cell_of_one p8.lc))) ?_
              simp
        · have ST := hide st
          clear st
          go_wp2
          go_ret2
          exact ⟨X1.out.trans (ST.out.below.mono hs12), .inl ⟨⟨h128, HALL.out⟩, u4, P, rfl, ST.out.own.mono (by omega), ST.out.parts⟩⟩
    · rw [decide_eq_false hall] at hr
      have HALL := hide hall
      clear hat hall
      go_enter Try.func30, Try.ntmps30
      go_wp2_with (go_at_call 53; refine hr.mono ?_; rintro e w1 ⟨rfl, x1⟩; have X1 := hide x1; clear x1)
      go_ret2
      exact ⟨X1.out, .inr ⟨fun h => HALL.out h.2, rfl⟩⟩
  · have hgt : (128 : Int) < (S.length : Int) := by omega
    clear hat
    go_enter Try.func30, Try.ntmps30
    go_wp2
    go_ret2
    exact ⟨Below.refl _ _, .inr ⟨fun h => h128 h.1, rfl⟩⟩
end Go.Proofs.Ytljagefcgijmlaa
