/-
  The program's Nodes by its contract: through, each node once. Condition: lists no longer than a process can hold.
-/
import Derived.Test.YtaafeflbanoncaaP02
import Derived.Test.YtaafeflbanoncaaP38
import Derived.Test.YtaafeflbanoncaaP40
namespace Go.Proofs.Ytaafeflbanoncaa
open Go.RowKit Go.Lib Go.Maps

theorem RwB.set {w : World} {b : Nat} {L : List Bool} (h : RwB w b L) (k : Nat) (x : Bool) : RwB (w.setCell ⟨b, k, none⟩ (.bool x)) b (L.set k x) := by
  unfold RwB
  rw [block_setCell h k]
  congr 2
  apply Array.ext'
  simp [bC, List.map_set]
theorem RwB.fro {w : World} {b : Nat} {L : List Bool} (h : RwB w b L) (k : Nat) : w.frozen? ⟨b, k, none⟩ = false := frozen_of_row w b k _ _ h
/-- The walk in memory: what was met, what ended. -/
structure TW (w0 w : World) (wk mb a n : Nat) (s : MetO) (v : Value) : Prop where
  bel : Below w0.heap.size w0 w
  blk : w.heap[wk]? = some (.cells #[.pointer (some ⟨a, 0, none⟩), .slice (some ⟨mb, 0, none⟩) n n, v] 113 (0, 0))
  met : RwB w mb s.1
  own : w.ownsRow w0.heap.size 3 1 v s.2.length (zC s.2)
  bw : w0.heap.size ≤ wk
  bm : w0.heap.size ≤ mb
section
variable {w0 w w' : World} {wk mb a n : Nat} {s : MetO} {v : Value}
theorem TW.cells (h : TW w0 w wk mb a n s v) : w.cell? ⟨wk, 0, none⟩ = some (.pointer (some ⟨a, 0, none⟩)) ∧ w.cell? ⟨wk, 1, none⟩ = some (.slice (some ⟨mb, 0, none⟩) n n) ∧ w.cell? ⟨wk, 2, none⟩ = some v := by
  refine ⟨?_, ?_, ?_⟩ <;> (rw [cell_of_row w wk _ _ _ _ h.blk]; rfl)
theorem TW.below (h : TW w0 w wk mb a n s v) (y : Below w.heap.size w w') : TW w0 w' wk mb a n s v :=
  ⟨bt h.bel y (by have := h.bel.size; omega), (y.block _ (lt_of_block h.blk)).trans h.blk, (y.block _ (lt_of_block h.met)).trans h.met, own_below h.own y, h.bw, h.bm⟩
/-- What through may write into. -/
def FW (wk mb : Nat) (v : Value) : Nat → Prop := fun k => k = wk ∨ k = mb ∨ v.ownBlock = some k
theorem TW.ne (h : TW w0 w wk mb a n s v) : wk ≠ mb ∧ ¬ v.ownBlock = some wk ∧ ¬ v.ownBlock = some mb :=
  ⟨ty_ne h.blk h.met (by decide), fun e => by obtain ⟨cs, h1⟩ := own_ty h.own _ e; exact ty_ne h1 h.blk (by decide) rfl, fun e => by obtain ⟨cs, h1⟩ := own_ty h.own _ e; exact ty_ne h1 h.met (by decide) rfl⟩
theorem TW.setMet (h : TW w0 w wk mb a n s v) (k : Nat) : TW w0 (w.setCell ⟨mb, k, none⟩ (.bool true)) wk mb a n (s.1.set k true, s.2) v ∧ Kept (fun b => b = mb) w (w.setCell ⟨mb, k, none⟩ (.bool true)) := by
  have kk : Kept (fun b => b = mb) w (w.setCell ⟨mb, k, none⟩ (.bool true)) := (Kept.refl (fun b => b = mb) w).setCell (p := ⟨mb, k, none⟩) rfl _
  refine ⟨⟨h.bel.setCell h.bm _, (kk.block _ (lt_of_block h.blk) h.ne.1).trans h.blk, h.met.set k true, own_kept h.own kk (fun b h1 e => h.ne.2.2 (e ▸ h1)), h.bw, h.bm⟩, kk⟩
theorem TW.push {v2 : Value} {f : Int} (h : TW w0 w wk mb a n s v) (o1 : w'.ownsRow w0.heap.size 3 1 v2 (s.2.length + 1) (zC s.2 ++ [.int .i64 f])) (k1 : Kept (fun k => v.ownBlock = some k) w w') (hn : ∀ k, v2.ownBlock = some k → v.ownBlock = some k ∨ w.heap.size ≤ k) :
    TW w0 (w'.setCell ⟨wk, 2, none⟩ v2) wk mb a n (s.1, s.2 ++ [f]) v2 ∧ w'.heap[wk]? = some (.cells #[.pointer (some ⟨a, 0, none⟩), .slice (some ⟨mb, 0, none⟩) n n, v] 113 (0, 0)) ∧ Kept (FW wk mb v) w (w'.setCell ⟨wk, 2, none⟩ v2) := by
  have b1 := (k1.block _ (lt_of_block h.blk) h.ne.2.1).trans h.blk
  have m1 : RwB w' mb s.1 := (k1.block _ (lt_of_block h.met) h.ne.2.2).trans h.met
  have kk : Kept (fun b => b = wk) w' (w'.setCell ⟨wk, 2, none⟩ v2) := (Kept.refl (fun b => b = wk) w').setCell (p := ⟨wk, 2, none⟩) rfl _
  have nv : ¬ v2.ownBlock = some wk := fun e => (hn wk e).elim h.ne.2.1 (fun h2 => by have := lt_of_block h.blk; omega)
  have hb := h.bel.size
  refine ⟨⟨(h.bel.trans (k1.below (by omega) (fun k hk => (World.ownsRow.lt h.own k hk).1))).setCell h.bw _, by rw [block_setCell b1 2]; rfl, (kk.block _ (lt_of_block m1) (fun e => h.ne.1 e.symm)).trans m1, ?_, h.bw, h.bm⟩, b1, (k1.mono (fun _ h => .inr (.inr h))).trans (kk.mono (fun _ h => .inl h))⟩
  have := own_kept o1 kk (fun b h1 e => nv (e ▸ h1))
  rw [List.length_append, zC_snoc]
  exact this
/-- What through leaves. -/
def ThL (w0 : World) (wk mb a n : Nat) (s2 : MetO) (v : Value) (w : World) (e : Ending) (w' : World) : Prop :=
  ∃ v2, e = .returned (.tuple #[]) ∧ TW w0 w' wk mb a n s2 v2 ∧ Kept (FW wk mb v) w w' ∧ (∀ k, v2.ownBlock = some k → v.ownBlock = some k ∨ w.heap.size ≤ k)
end
section
variable {w0 : World} {wk mb a m : Nat} {S : List Int} {M : Int} {N : List Nd} {P : Nat → Prop}
set_option maxRecDepth 100000 in
set_option maxHeartbeats 4000000 in
theorem through_any (h0 : CA w0 a S M N m P) : ∀ (n : Nat) (w : World) (s : MetO) (v : Value) (f : Int) (j : Nat), TW w0 w wk mb a (N.length + 2) s v → hasR N f → f.toNat ≤ n → MetOk (N.length + 2) j s →
    Calls Try.prog 69 #[.pointer (some ⟨wk, 0, none⟩), .int .i64 f] w fun e w' => ThL w0 wk mb a (N.length + 2) (thrF N n f s) v w e w' := by
  obtain ⟨i3, hi3, hz30, hz31, hz32⟩ := info_parts Try.info3
  have ok := h0.ok
  have hfew : N.length ≤ 8192 := by have := ok.few; have := ok.m1; omega
  intro n
  induction n with
  | zero =>
    intro w s v f j h hf hn _
    have hf0 : f = 0 := by have := hf.1; omega
    subst hf0
    have FIN : Hid (ThL w0 wk mb a (N.length + 2) (thrF N 0 0 s) v w (.returned (.tuple #[])) w) := ⟨v, rfl, h, Kept.refl _ _, fun _ h => .inl h⟩
    clear h
    go_enter Try.func69, Try.ntmps69
    go_wp2
    refine bodyPost_ret (results_none rfl _ _ _) rfl ?_
    exact FIN.out
  | succ n ih =>
    intro w s v f j h hf hn hm
    by_cases h2 : f < 2
    · have FIN : Hid (ThL w0 wk mb a (N.length + 2) (thrF N (n + 1) f s) v w (.returned (.tuple #[])) w) := ⟨v, rfl, by unfold thrF; rw [if_pos (.inl h2)]; exact h, Kept.refl _ _, fun _ h => .inl h⟩
      clear h hm hf hn
      go_enter Try.func69, Try.ntmps69
      go_wp2
      refine bodyPost_ret (results_none rfl _ _ _) rfl ?_
      exact FIN.out
    obtain ⟨fn, rfl⟩ : ∃ fn : Nat, f = (fn : Int) := ⟨f.toNat, by omega⟩
    have hfn : fn < N.length + 2 := by have := hf.2; omega
    have hfn' : (fn : Int) < (N.length : Int) + 2 := by omega
    obtain ⟨c0, c1, c2⟩ := h.cells
    have cm := h.met.cell (k := fn) (by rw [hm.len]; exact hfn)
    by_cases hmet : s.1.getD fn false = true
    · have FIN : Hid (ThL w0 wk mb a (N.length + 2) (thrF N (n + 1) (fn : Int) s) v w (.returned (.tuple #[])) w) := ⟨v, rfl, by unfold thrF; rw [if_pos (.inr (by rw [Int.toNat_natCast]; exact hmet))]; exact h, Kept.refl _ _, fun _ h => .inl h⟩
      rw [hmet] at cm
      clear h hm hf hn hmet
      go_enter Try.func69, Try.ntmps69
      go_wp2
      refine bodyPost_ret (results_none rfl _ _ _) rfl ?_
      exact FIN.out
    have hmf : s.1.getD fn false = false := Bool.eq_false_iff.2 hmet
    rw [hmf] at cm
    obtain ⟨l, ks, hnd⟩ := ok.ndAt (f := (fn : Int)) (by omega) hf.2
    have hkl : kidsL N (fn : Int) = ks := by unfold kidsL; rw [List.getD_eq_getElem?_getD, hnd.at_]; rfl
    have hks : ks.length ≤ 256 := by have h5 := hnd.len; have h6 := ok.sz.each _ (getD_mem hnd.lt); omega
    have STEP : Hid (thrF N (n + 1) (fn : Int) s = ((ks.foldl (fun s k => thrF N n k s) (s.1.set fn true, s.2)).1, (ks.foldl (fun s k => thrF N n k s) (s.1.set fn true, s.2)).2 ++ [(fn : Int)])) := by
      unfold Hid
      rw [thrF, if_neg (fun e => e.elim h2 (fun e => hmet (by rw [Int.toNat_natCast] at e; exact e))), hkl, Int.toNat_natCast]
    have KH : Hid (∀ i (hi : i < ks.length), hasR N ks[i] ∧ (ks[i]).toNat ≤ n) := fun i hi => by
      have := hnd.kid i hi
      rw [List.getD_eq_getElem?_getD, List.getElem?_eq_getElem hi] at this
      simp only [Option.getD_some] at this
      exact ⟨⟨this.1, by omega⟩, by omega⟩
    have S1 := hide (h.setMet fn)
    have MO1 := hide (hm.set hfn hmf)
    have fm := h.met.fro fn
    have HND := hide (fun W (y : Below w0.heap.size w0 W) => (h0.below y).node (fn : Int))
    have HAT := hide hnd.at_
    have IH := hide ih
    have HH0 := hide h0
    have HOK := hide ok
    clear h hm hf hn hmet hmf hnd hkl ih h0
    go_enter Try.func69, Try.ntmps69
    go_upto_region 2 with fail
    clear c0 c1 c2 cm fm
    have K1 := hide S1.out.2
    have T1 := hide S1.out.1
    generalize w.setCell ⟨mb, fn, none⟩ (.bool true) = w1 at *
    clear S1
    obtain ⟨c0, c1, c2⟩ := T1.out.cells
    have NDL : Hid (∀ (e : Ending) (W : World), NdL N (fn : Int) w1 e W → ∃ (g c : Nat), e = .returned (.tuple #[.agg #[.int .i64 (l : Int), .slice (some ⟨g, 0, none⟩) ks.length c], .int .i64 0]) ∧ ZBk W g ks ∧ w1.heap.size ≤ g ∧ Below w1.heap.size w1 W) := fun e W ⟨h1, h3⟩ => by
      rcases h1 with ⟨i, lv, ks', g, c, e1, e2, e3, _, e5, e6⟩ | ⟨h1, _⟩
      · have hi : i = ((fn : Int) - 2).toNat := by omega
        rw [hi, HAT.out] at e1
        injection e1 with e1
        injection e1 with e1 e1'
        subst e1 e1'
        exact ⟨g, c, e3, e5, e6, h3⟩
      · exact absurd ⟨by omega, by omega⟩ h1
    have HN1 := hide (HND.out _ T1.out.bel)
    go_upto_region 3 with (go_at_call 21; refine HN1.out.mono ?_; rintro e w2 nd; obtain ⟨g, c, rfl, zk, hg, x2⟩ := NDL.out _ _ nd; have ZK := hide zk; have HG := hide hg; have X2 := hide x2; clear nd zk hg x2)
    clear HN1 NDL HND c0 c1 c2
    have y3 : Below w2.heap.size w2 (w2.alloc (.cells #[.int .i64 (l : Int), .slice (some ⟨g, 0, none⟩) ks.length c] 58)) := al (Below.refl _ _) _
    have X3 := hide (bt X2.out y3 (Nat.le_refl _))
    have d1 : (w2.alloc (.cells #[.int .i64 (l : Int), .slice (some ⟨g, 0, none⟩) ks.length c] 58)).cell? ⟨w2.heap.size, 1, none⟩ = some (.slice (some ⟨g, 0, none⟩) ks.length c) := by rw [cell_of_row _ _ _ _ _ _ (heap_alloc_new w2 _)]; rfl
    have ZK3 := hide (ZK.out.below y3)
    have T3 := hide (T1.out.below X3.out)
    have K3 : Hid (Kept (FW wk mb v) w (w2.alloc (.cells #[.int .i64 (l : Int), .slice (some ⟨g, 0, none⟩) ks.length c] 58))) := (K1.out.mono (fun _ h => .inr (.inl h))).trans (Kept.of_below X3.out)
    have GN : Hid (g < w2.heap.size ∧ w1.heap.size ≤ g) := ⟨ZK.out.lt, HG.out⟩
    have GF : Hid (¬ FW wk mb v g) := fun e => by
      have h1 := lt_of_block T1.out.blk
      have h3 := lt_of_block T1.out.met
      have h4 := HG.out
      rcases e with e | e | e
      · omega
      · omega
      · have := (World.ownsRow.lt T1.out.own g e).2; omega
    have GL : Hid (g < (w2.alloc (.cells #[.int .i64 (l : Int), .slice (some ⟨g, 0, none⟩) ks.length c] 58)).heap.size) := ZK3.out.lt
    clear y3 X2 X3 T1 K1 ZK GN
    generalize w2.alloc (.cells #[.int .i64 (l : Int), .slice (some ⟨g, 0, none⟩) ks.length c] 58) = w3 at *
    generalize w2.heap.size = nb at *
    go_upto_block 0 with fail
    clear d1
    go_cut [] (fun wx => ∃ v4, Hid (TW w0 wx wk mb a (N.length + 2) (ks.foldl (fun s k => thrF N n k s) (s.1.set fn true, s.2)) v4) ∧ Hid (Kept (FW wk mb v) w wx) ∧ Hid (∀ k, v4.ownBlock = some k → v.ownBlock = some k ∨ w.heap.size ≤ k) ∧ Hid (MetOk (N.length + 2) (j + 1) (ks.foldl (fun s k => thrF N n k s) (s.1.set fn true, s.2))))
    case first =>
      go_wp2
      go_loopw [37] (fun x wr => ∃ i : Nat, i ≤ ks.length ∧ x = .int .i64 i ∧ ∃ v4, Hid (TW w0 wr wk mb a (N.length + 2) ((ks.take i).foldl (fun s k => thrF N n k s) (s.1.set fn true, s.2)) v4) ∧ Hid (Kept (FW wk mb v) w wr) ∧ Hid (∀ k, v4.ownBlock = some k → v.ownBlock = some k ∨ w.heap.size ≤ k) ∧ Hid (MetOk (N.length + 2) (j + 1) ((ks.take i).foldl (fun s k => thrF N n k s) (s.1.set fn true, s.2))) ∧ Hid (ZBk wr g ks ∧ ¬ v4.ownBlock = some g ∧ g < wr.heap.size)) (fun x _ => ks.length - (RowKit.intOf x).toNat)
      case atStart => exact ⟨0, Nat.zero_le _, rfl, v, T3, K3, hide (fun _ h => .inl h), MO1, hide ⟨ZK3.out, fun e => GF.out (.inr (.inr e)), GL.out⟩⟩
      case round =>
        obtain ⟨i, hi, rfl, v4, T4, K4, V4, O4, G4⟩ := hrel
        clear T3 K3 MO1
        by_cases hlt : i < ks.length
        · have hlt' : (i : Int) < (ks.length : Int) := by omega
          have q := G4.out.1.cell hlt
          obtain ⟨kv, hkv⟩ : ∃ kv, ks.getD i 0 = kv := ⟨_, rfl⟩
          rw [hkv] at q
          have hke : ks[i] = kv := by rw [← hkv, List.getD_eq_getElem?_getD, List.getElem?_eq_getElem hlt]; rfl
          obtain ⟨hkh, hkn⟩ := KH.out i hlt
          rw [hke] at hkh hkn
          have HC := hide (IH.out wr _ v4 kv (j + 1) T4.out hkh hkn O4.out)
          have O5 := hide (thr_ok HOK.out n kv (j + 1) _ hkh O4.out)
          have EQ : Hid ((ks.take (i + 1)).foldl (fun s k => thrF N n k s) (s.1.set fn true, s.2) = thrF N n kv ((ks.take i).foldl (fun s k => thrF N n k s) (s.1.set fn true, s.2))) := by
            unfold Hid
            rw [List.take_succ_eq_append_getElem hlt, List.foldl_append, hke]
            rfl
          rw [← EQ.out] at HC O5
          have GF4 : Hid (¬ FW wk mb v4 g) := fun e => by
            rcases e with e | e | e
            · exact GF.out (.inl e)
            · exact GF.out (.inr (.inl e))
            · exact G4.out.2.1 e
          clear hkv hke hkh hkn EQ
          go_wp2_with (go_at_call 69; refine HC.out.mono ?_; rintro e w5 ⟨v5, rfl, t5, k5, h5⟩; have T5 := hide t5; have K5 : Hid (Kept (FW wk mb v) w w5) := K4.out.trans_new k5 (fun b hb hF => hF.elim .inl (fun hF => hF.elim (fun e => .inr (.inl e)) (fun e => (V4.out b e).elim (fun e => .inr (.inr e)) (fun e => by omega)))); have V5 : Hid (∀ k, v5.ownBlock = some k → v.ownBlock = some k ∨ w.heap.size ≤ k) := (fun k hk => (h5 k hk).elim (V4.out k) (fun e => .inr (Nat.le_trans K4.out.size e))); have G5 : Hid (ZBk w5 g ks ∧ ¬ v5.ownBlock = some g ∧ g < w5.heap.size) := (And.intro (G4.out.1.congr (k5.block g G4.out.2.2 GF4.out)) (And.intro (fun e => (h5 g e).elim G4.out.2.1 (fun e2 => by have := G4.out.2.2; omega)) (Nat.lt_of_lt_of_le G4.out.2.2 k5.size))); clear t5 k5 h5)
          go_roundw
          case rel => exact ⟨i + 1, by omega, by go_num, v5, T5, K5, V5, O5, G5⟩
          case measure => simp [RowKit.intOf]; omega
        · have hlt' : ¬ (i : Int) < (ks.length : Int) := by omega
          obtain rfl : i = ks.length := by omega
          rw [List.take_length] at T4 O4
          go_wp2
          go_meet
          exact ⟨v4, T4, K4, V4, O4⟩
    obtain ⟨v4, T4, K4, V4, O4⟩ := hcut
    obtain ⟨w6, hw6⟩ : ∃ w6, w6 = wc := ⟨_, rfl⟩
    subst hw6
    clear T3 K3 MO1 ZK3 GF GL KH
    generalize ks.foldl (fun s k => thrF N n k s) (s.1.set fn true, s.2) = s4 at *
    obtain ⟨la, lc, hv4, _⟩ := own_shape T4.out.own
    subst hv4
    obtain ⟨c0, c1, c2⟩ := T4.out.cells
    have hle : s4.2.length ≤ 8194 := by have h5 := O4.out.cnt; have h6 := O4.out.len; have h7 := count_le s4.1; omega
    obtain ⟨mm, hmm⟩ : ∃ mm, s4.2.length = mm := ⟨_, rfl⟩
    have y7 : Below w6.heap.size w6 (w6.alloc (.cells #[.int .i64 (fn : Int)] 3)) := al (Below.refl _ _) _
    have Y7 := hide y7
    have T7 := hide (T4.out.below y7)
    have OW : Hid ((w6.alloc (.cells #[.int .i64 (fn : Int)] 3)).ownsRow w0.heap.size 3 1 (.slice la mm lc) mm (zC s4.2)) := by rw [← hmm]; exact T7.out.own
    have SZ : Hid (w0.heap.size ≤ (w6.alloc (.cells #[.int .i64 (fn : Int)] 3)).heap.size) := Nat.le_trans T4.out.bel.size y7.size
    rw [hmm] at c2 hle
    have HM := hide hmm
    clear y7 hmm
    have PU : Hid (∀ v5 (w8 : World), w8.ownsRow w0.heap.size 3 1 v5 (mm + 1) (zC s4.2 ++ [.int .i64 (fn : Int)]) → AppAt (w6.alloc (.cells #[.int .i64 (fn : Int)] 3)) w8 (.slice la mm lc) v5 → ThL w0 wk mb a (N.length + 2) (thrF N (n + 1) (fn : Int) s) v w (.returned (.tuple #[])) (w8.setCell ⟨wk, 2, none⟩ v5) ∧ w8.heap[wk]? = some (.cells #[.pointer (some ⟨a, 0, none⟩), .slice (some ⟨mb, 0, none⟩) (N.length + 2) (N.length + 2), .slice la mm lc] 113 (0, 0))) := fun v5 w8 h1 h3 => by
      rw [← HM.out] at h1 h3 ⊢
      have ka := appK h3
      have na : ∀ k, v5.ownBlock = some k → (Value.slice la s4.2.length lc).ownBlock = some k ∨ (w6.alloc (.cells #[.int .i64 (fn : Int)] 3)).heap.size ≤ k := fun k hk => by
        rcases h3 with ⟨g, p1, p2, _⟩ | ⟨_, p2⟩
        · rw [p2] at hk; exact .inl (p1.trans hk)
        · exact .inr (p2 k hk)
      obtain ⟨t1, t2, t3⟩ := T7.out.push h1 ka na
      refine ⟨⟨v5, rfl, by rw [STEP.out]; exact t1, (K4.out.trans (Kept.of_below Y7.out)).trans_new t3 (fun b hb hF => hF.elim .inl (fun hF => hF.elim (fun e => .inr (.inl e)) (fun e => (V4.out b e).elim (fun e => .inr (.inr e)) (fun e => by omega)))), fun k hk => (na k hk).elim (V4.out k) (fun e => .inr ?_)⟩, t2⟩
      have h5 := K4.out.size
      have h6 := Y7.out.size
      omega
    clear T4 K4 V4 O4 T7 STEP
    go_wp2_with (at_builtin; refine wpList_append_view rfl (.tmp 49) (.tmp 51) 22 rfl w0.heap.size 3 i3 (.int .i64 0) 1 8 Try.underlying22 hi3 hz30 hz31 hz32 rfl (by decide) _ mm (zC s4.2) rfl OW.out ⟨w6.heap.size, 0, none⟩ 1 1 [.int .i64 (fn : Int)] rfl rfl (one_new w6 _ _) (by simp [Value.oneCell']) (by decide) (by unfold maxLen; omega) (by omega) SZ.out ?_; intro v5 w8 h1 h3; obtain ⟨a5, c5, hv5, _⟩ := own_shape h1; subst hv5; obtain ⟨fin, b8⟩ := PU.out _ w8 h1 h3; have FIN := hide fin; have f8 := frozen_of_row w8 wk 2 _ _ b8; have d8 : w8.cell? ⟨wk, 2, none⟩ = some (.slice la mm lc) := (by rw [cell_of_row w8 wk _ _ _ _ b8]; rfl); clear fin b8 h1 h3)
    refine bodyPost_end (v := .tuple #[]) (results_none rfl _ _ _) rfl ?_
    exact FIN.out
end
end Go.Proofs.Ytaafeflbanoncaa
