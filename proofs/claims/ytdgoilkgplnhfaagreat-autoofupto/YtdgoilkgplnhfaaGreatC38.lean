/-
  The functions that Of hands on, by their contracts. Condition: there are at most 64 pieces.
-/
import Derived.Test.YtdgoilkgplnhfaaGreatC37
import Derived.Test.YtdgoilkgplnhfaaGreatC27
set_option maxRecDepth 100000
set_option maxHeartbeats 16000000
namespace Go.Proofs.YtdgoilkgplnhfaaGreat
open Go.RowKit Go.Lib Go.Maps
theorem row64 {V : World} {tg : Nat} {F : Nat → Bool} (hB : V.heap[tg]? = some (.cells (mkb 16384 F) 73 (0, 0))) {b : Nat} (hb : b < 256) : ∀ j v, (mk64 fun i => F (b * 64 + i))[j]? = some v → V.cell? ((⟨tg, b * 64, none⟩ : Addr).add j) = some v := fun j v hv => by
 have hj : j < 64 := by
  apply Nat.lt_of_not_le
  intro h
  rw [Array.getElem?_eq_none (by rw [mk64_size]; exact h)] at hv
  cases hv
 rw [mk64_get _ _ hj] at hv
 rw [addr_add, cell_of_row _ _ _ _ _ _ hB, mkb_get _ _ _ (by omega)]
 exact hv
theorem exec_load_at {P : Program} {o : Oper} {a : Act} {V : World} (ty : TypeId) (x : Operand) (ho : o.op = .load ty x) (p : Addr) (hx : a.eval x = .pointer (some p)) (v : Value) (hl : (loadVar ty p).run P V = .ok v V) : (execOp a.eval o).run P V = .ok (.value v) V := by
 unfold execOp
 simp only [ho, hx, Instr.loadAt, Instr.sureAddr, Sem.run_bind, Sem.run_pure, Result.andThen_ok, hl]
theorem of1_any (b pg tg : Nat) (F : Nat → Bool) (w : World) (hb : b < 256) (hp : w.cell? ⟨pg, 0, none⟩ = some (.slice (some ⟨tg, 0, none⟩) 256 256)) (hpl : pg < w.heap.size) (hB : w.heap[tg]? = some (.cells (mkb 16384 F) 73 (0, 0))) :
 Calls Tryz.prog 43 #[.int .i64 (b : Nat), .pointer (some ⟨pg, 0, none⟩)] w fun e w' => e = .returned (.agg (mk64 fun i => F (b * 64 + i))) ∧ Below w.heap.size w w' := by
 obtain ⟨hzv, hsz⟩ := zero_of_info Tryz.info73
 obtain ⟨z, hz⟩ : ∃ z, z = (Array.replicate 64 (Value.bool false)) := ⟨_, rfl⟩
 have HZS : Hid (z.size = 64) := by unfold Hid; rw [hz]; simp
 rw [← hz] at hzv
 clear hz
 have hlt : (b : Int) < 256 := by omega
 have X1 : Below w.heap.size w (w.alloc (.cells z 73)) := al (Below.refl _ _) _
 have B1 := hide (heap_alloc_new w (.cells z 73))
 have c0 := (X1.cell (p := ⟨pg, 0, none⟩) hpl).trans hp
 have BB := hide ((X1.block _ (lt_of_block hB)).trans hB)
 have HC := hide (row64 BB.out hb)
 obtain ⟨m, hm⟩ : ∃ m, Hid (m = mk64 fun i => F (b * 64 + i)) := ⟨_, rfl⟩
 rw [← hm.out] at HC
 have HI : Hid ((Tryz.prog.info? 73).map (·.size) = some m.size) := by unfold Hid; rw [hsz, hm.out, mk64_size]
 have HZ2 : Hid (z.size = m.size) := by unfold Hid; rw [HZS.out, hm.out, mk64_size]
 have HAL : Hid (m.all (·.oneCell') = true) := by unfold Hid; rw [hm.out]; exact mk64_all _
 have X1 := hide X1
 clear hsz hp hB hpl
 go_enter Tryz.func43, Tryz.ntmps43
 go_wp2_with (first
  | (refine wpList_load_at rfl 73 (.tmp 6) rfl ⟨tg, b * 64, none⟩ (by first | rfl | (simp; done)) m _ HC.out Tryz.underlying73 rfl HI.out ?_)
  | (refine wpList_store_row rfl 73 (.tmp 3) (.tmp 7) rfl w.heap.size m rfl rfl 73 z B1.out HI.out HZ2.out HAL.out ?_))
 have HBN := hide (setRow_heap _ w.heap.size z m 73 (0, 0) B1.out)
 have HXN := hide (below_setRow X1.out (Nat.le_refl w.heap.size) m)
 refine bodyPost_ret (v := .agg m) (results_cell_row rfl _ _ w.heap.size 73 m (0, 0) _ rfl HBN.out Tryz.underlying73 rfl HI.out) rfl ?_
 exact ⟨by rw [hm.out], HXN.out⟩
theorem of2_any (ao : Option Addr) (cap fc c q p0 p1 p2 tg : Nat) (fa : Option Addr) (fst : List Nat) (D : List PD) (f F : Nat → Bool) (w : World) (hl : D.length ≤ 64) (hq : fst[c]? = some q) (hqb : q < 256) (hat : PcAt w ao D) (hfa : NAt w fa fst)
 (h0 : w.cell? ⟨p0, 0, none⟩ = some (.slice ao D.length cap)) (h1 : w.cell? ⟨p1, 0, none⟩ = some (.slice (some ⟨tg, 0, none⟩) 256 256)) (h2 : w.cell? ⟨p2, 0, none⟩ = some (.slice fa fst.length fc)) (l0 : p0 < w.heap.size) (l1 : p1 < w.heap.size) (l2 : p2 < w.heap.size) (hB : w.heap[tg]? = some (.cells (mkb 16384 F) 73 (0, 0))) :
 Calls Tryz.prog 46 #[.agg (mk f), .int .i64 (c : Nat), .pointer (some ⟨p0, 0, none⟩), .pointer (some ⟨p1, 0, none⟩), .pointer (some ⟨p2, 0, none⟩)] w fun e w' => e = .returned (.agg (mk (clF (D.map PD.p) (agF (D.map PD.p) f (fun i => F (q * 64 + i)) D.length) D.length))) ∧ Below w.heap.size w w' := by
 obtain ⟨hzv, hsz⟩ := zero_of_info Tryz.info80
 have HZS := hide (mk_size fun _ => false)
 have hs := mk_size f
 obtain ⟨z, hz⟩ : ∃ z, Hid (z = mk fun _ => false) := ⟨_, rfl⟩
 rw [← hz.out] at hzv HZS
 obtain ⟨a, ha⟩ : ∃ a, Hid (a = mk f) := ⟨_, rfl⟩
 rw [← ha.out] at hs ⊢
 obtain ⟨hc, hcq⟩ := List.getElem?_eq_some_iff.1 hq
 obtain ⟨fb, fo, rfl, hfb, cf⟩ := hfa.get hc
 rw [hcq] at cf
 have hc' : (c : Int) < (fst.length : Int) := by omega
 have hq' : (q : Int) < 256 := by omega
 have e1 : (w.alloc (.cells a 80)).heap.size = w.heap.size + 1 := by simp
 have x1 : Below w.heap.size w (w.alloc (.cells a 80)) := al (Below.refl _ _) _
 have b1 := heap_alloc_new w (.cells a 80)
 have x2 : Below (w.alloc (.cells a 80)).heap.size (w.alloc (.cells a 80)) ((w.alloc (.cells a 80)).alloc (.cells z 80)) := al (Below.refl _ _) _
 have b2 := heap_alloc_new (w.alloc (.cells a 80)) (.cells z 80)
 have X2 := bt x1 x2 (Nat.le_refl _)
 have BA := (x2.block _ (by omega)).trans b1
 rw [e1] at b2
 obtain ⟨w2, hw2⟩ : ∃ w2, w2 = (w.alloc (.cells a 80)).alloc (.cells z 80) := ⟨_, rfl⟩
 rw [← hw2] at X2 BA b2
 clear x1 x2 b1 e1
 have HBZ := hide b2
 have lz := lt_of_block b2
 have lA := lt_of_block BA
 have lt := lt_of_block hB
 obtain ⟨m1, hm1⟩ : ∃ m, Hid (m = mk64 fun i => F (q * 64 + i)) := ⟨_, rfl⟩
 obtain ⟨m, hm⟩ : ∃ m, Hid (m = mk (clF (D.map PD.p) (agF (D.map PD.p) f (fun i => F (q * 64 + i)) D.length) D.length)) := ⟨_, rfl⟩
 have HSK : Hid (∀ V V', Below w2.heap.size w2 V → Kept (fun i => i = w.heap.size + 1) V V' → V'.cell? ⟨p0, 0, none⟩ = some (.slice ao D.length cap) ∧ V'.cell? ⟨p1, 0, none⟩ = some (.slice (some ⟨tg, 0, none⟩) 256 256) ∧ V'.cell? ⟨p2, 0, none⟩ = some (.slice (some ⟨fb, fo, none⟩) fst.length fc) ∧ V'.cell? ⟨fb, fo + c, none⟩ = some (.int .i64 (q : Int)) ∧ (loadVar 80 ⟨w.heap.size, 0, none⟩).run Tryz.prog V' = .ok (.agg a) V' ∧ (loadVar 73 ⟨tg, q * 64, none⟩).run Tryz.prog V' = .ok (.agg m1) V') := fun V V' x k => by
  have y := bt X2 x (Nat.le_refl _)
  have kc : ∀ {p : Addr}, p.block < w.heap.size → V'.cell? p = w.cell? p := fun {p} hp => by
   have hp2 : p.block < V.heap.size := Nat.lt_of_lt_of_le hp y.size
   exact (World.cell?_of_block (k.block _ hp2 (by omega))).trans (y.cell hp)
  have kb : ∀ g, g < w2.heap.size → ¬ g = w.heap.size + 1 → V'.heap[g]? = w2.heap[g]? := fun g h1 h2 => (k.block _ (Nat.lt_of_lt_of_le h1 x.size) h2).trans (x.block _ h1)
  refine ⟨(kc (p := ⟨p0, 0, none⟩) l0).trans h0, (kc (p := ⟨p1, 0, none⟩) l1).trans h1, (kc (p := ⟨p2, 0, none⟩) l2).trans h2, (kc (p := ⟨fb, fo + c, none⟩) hfb).trans cf, ?_, ?_⟩
  · exact run_loadVar_row V' w.heap.size 80 80 a (0, 0) _ ((kb _ lA (by omega)).trans BA) Tryz.underlying80 rfl (by rw [hsz, hs])
  · rw [hm1.out]
    have e2 : w2.heap[tg]? = w.heap[tg]? := X2.block _ lt
    exact run_loadVar_at V' ⟨tg, q * 64, none⟩ 73 _ _ (row64 ((kb _ (Nat.lt_of_lt_of_le lt X2.size) (by omega)).trans (e2.trans hB)) hqb) Tryz.underlying73 rfl (by rw [(zero_of_info Tryz.info73).2, mk64_size])
 have HS : Hid (∀ V, Below w2.heap.size w2 V → V.cell? ⟨p0, 0, none⟩ = some (.slice ao D.length cap) ∧ V.cell? ⟨p1, 0, none⟩ = some (.slice (some ⟨tg, 0, none⟩) 256 256) ∧ V.cell? ⟨p2, 0, none⟩ = some (.slice (some ⟨fb, fo, none⟩) fst.length fc) ∧ V.cell? ⟨fb, fo + c, none⟩ = some (.int .i64 (q : Int)) ∧ (loadVar 80 ⟨w.heap.size, 0, none⟩).run Tryz.prog V = .ok (.agg a) V ∧ (loadVar 73 ⟨tg, q * 64, none⟩).run Tryz.prog V = .ok (.agg m1) V) := fun V x => HSK.out V V x (Kept.refl _ _)
 have HAF : Hid (∀ V, Below w2.heap.size w2 V → Calls Tryz.prog 47 #[.slice ao D.length cap, .agg a, .agg m1] V fun e w' => e = .returned (.agg m) ∧ Below V.heap.size V w') := fun V x => by
  rw [ha.out, hm1.out, hm.out]
  exact after6_any ao cap D f _ V hl (hat.below (bt X2 x (Nat.le_refl _)))
 have HI : Hid ((Tryz.prog.info? 80).map (·.size) = some m.size) := by unfold Hid; rw [hsz, hm.out, mk_size]
 have HZ2 : Hid (z.size = m.size) := by unfold Hid; rw [HZS.out, hm.out, mk_size]
 have HAL : Hid (m.all (·.oneCell') = true) := by unfold Hid; rw [hm.out]; exact mk_all _
 have X2 := hide X2
 obtain ⟨g0, g1, g2, g3, g4, g5⟩ := HS.out w2 (Below.refl _ _)
 clear hsz hs h0 h1 h2 l0 l1 l2 hB hat hfa hq hcq cf BA b2
 go_enter Tryz.func46, Tryz.ntmps46
 go_upto_region 1 with fail
 rw [← hw2]
 clear hw2
 refine wp_region_held (S := fun V => V.cell? ⟨p0, 0, none⟩ = some (.slice ao D.length cap) ∧ V.cell? ⟨p1, 0, none⟩ = some (.slice (some ⟨tg, 0, none⟩) 256 256) ∧ V.cell? ⟨p2, 0, none⟩ = some (.slice (some ⟨fb, fo, none⟩) fst.length fc) ∧ V.cell? ⟨fb, fo + c, none⟩ = some (.int .i64 (q : Int)) ∧ (loadVar 80 ⟨w.heap.size, 0, none⟩).run Tryz.prog V = .ok (.agg a) V ∧ (loadVar 73 ⟨tg, q * 64, none⟩).run Tryz.prog V = .ok (.agg m1) V) (by kernel_rfl) ?_
 change wpAnyH _ _ _ _ _ _ _ _ (World.drew _)
 have hS2 := HS.out w2.drew (Below.refl _ _).drew
 refine wpAnyH_take (i := 0) (v := .slice ao D.length cap) rfl (by kernel_rfl) (by kernel_rfl) (by kernel_rfl) (fun _ _ _ h => h) (Or.inl ⟨by rfl, fun V hV => by obtain ⟨g0, g1, g2, g3, _, _⟩ := hV; go_simp⟩) hS2 ?_
 refine wpAnyH_take (i := 1) (v := .agg a) rfl (by kernel_rfl) (by kernel_rfl) (by kernel_rfl) (fun _ _ _ h => h) (Or.inl ⟨by rfl, fun V hV => exec_load_at 80 (.tmp 5) rfl ⟨w.heap.size, 0, none⟩ rfl _ hV.2.2.2.2.1⟩) hS2 ?_
 refine wpAnyH_take (i := 2) (v := .slice (some ⟨tg, 0, none⟩) 256 256) rfl (by kernel_rfl) (by kernel_rfl) (by kernel_rfl) (fun _ _ _ h => h) (Or.inl ⟨by rfl, fun V hV => by obtain ⟨g0, g1, g2, g3, _, _⟩ := hV; go_simp⟩) hS2 ?_
 refine wpAnyH_take (i := 3) (v := .slice (some ⟨fb, fo, none⟩) fst.length fc) rfl (by kernel_rfl) (by kernel_rfl) (by kernel_rfl) (fun _ _ _ h => h) (Or.inl ⟨by rfl, fun V hV => by obtain ⟨g0, g1, g2, g3, _, _⟩ := hV; go_simp⟩) hS2 ?_
 refine wpAnyH_take (i := 4) (v := .int .i64 (c : Nat)) rfl (by kernel_rfl) (by kernel_rfl) (by kernel_rfl) (fun _ _ _ h => h) (Or.inl ⟨by rfl, fun V hV => by obtain ⟨g0, g1, g2, g3, _, _⟩ := hV; go_simp⟩) hS2 ?_
 refine wpAnyH_take (i := 5) (v := .pointer (some ⟨fb, fo + c, none⟩)) rfl (by kernel_rfl) (by kernel_rfl) (by kernel_rfl) (fun _ _ _ h => h) (Or.inl ⟨by rfl, fun V hV => by obtain ⟨g0, g1, g2, g3, _, _⟩ := hV; go_simp⟩) hS2 ?_
 refine wpAnyH_take (i := 6) (v := .int .i64 (q : Int)) rfl (by kernel_rfl) (by kernel_rfl) (by kernel_rfl) (fun _ _ _ h => h) (Or.inl ⟨by rfl, fun V hV => by obtain ⟨g0, g1, g2, g3, _, _⟩ := hV; go_simp⟩) hS2 ?_
 refine wpAnyH_take (i := 7) (v := .pointer (some ⟨tg, q * 64, none⟩)) rfl (by kernel_rfl) (by kernel_rfl) (by kernel_rfl) (fun _ _ _ h => h) (Or.inl ⟨by rfl, fun V hV => by obtain ⟨g0, g1, g2, g3, _, _⟩ := hV; go_simp⟩) hS2 ?_
 refine wpAnyH_take (i := 8) (v := .agg m1) rfl (by kernel_rfl) (by kernel_rfl) (by kernel_rfl) (fun _ _ _ h => h) (Or.inl ⟨by rfl, fun V hV => exec_load_at 73 (.tmp 15) rfl ⟨tg, q * 64, none⟩ rfl _ hV.2.2.2.2.2⟩) hS2 ?_
 refine wpAnyH_all (rs := [9]) (by kernel_rfl) (by simp) (fun i hi => ?_)
 obtain rfl : i = 9 := by simpa using hi
 refine wpOp_step rfl (fun K hK => ?_)
 go_simp
 refine (HAF.out _ (Below.refl _ _).drew).mono ?_
 rintro e w6 ⟨rfl, x6⟩
 have y6 : Below w2.heap.size w2 w6 := (Below.refl _ _).drew.trans x6
 have X6 := hide (bt X2.out y6 (Nat.le_refl _))
 have BR6 := hide ((y6.block _ lz).trans HBZ.out)
 refine hK _ _ ⟨HS.out _ y6, ?_⟩
 clear hK K hS2
 refine wpAnyH_all (rs := [10]) (by kernel_rfl) (by simp) (fun i hi => ?_)
 obtain rfl : i = 10 := by simpa using hi
 refine wpOp_step rfl (fun K hK => ?_)
 rw [if_pos (by rfl)]
 refine wp_store_row 80 (.tmp 7) (.tmp 17) rfl (w.heap.size + 1) m rfl rfl 80 z BR6.out HI.out HZ2.out HAL.out ?_
 have hk6 : Kept (fun i => i = w.heap.size + 1) w6 (w6.setRow (w.heap.size + 1) m) := ⟨rfl, rfl, rfl, by simp [World.setRow], fun i _ hi => by have hne : ¬ w.heap.size + 1 = i := fun h => hi h.symm; simp [World.setRow, Array.getElem?_modify, hne]⟩
 refine hK _ _ ⟨HSK.out _ _ y6 hk6, ?_⟩
 clear hK K
 refine wpAnyH_done (by kernel_rfl) ?_ _
 have HBN := hide (setRow_heap w6 (w.heap.size + 1) z m 80 (0, 0) BR6.out)
 have HXN := hide (below_setRow X6.out (Nat.le_succ w.heap.size) m)
 clear hk6
 go_wp2
 refine bodyPost_ret (v := .agg m) (results_cell_row rfl _ _ (w.heap.size + 1) 80 m (0, 0) _ rfl HBN.out Tryz.underlying80 rfl HI.out) rfl ?_
 exact ⟨by rw [hm.out], HXN.out⟩
def plZ (L : List Pc) : List Bool := plL (clF L (upd (fun _ => false) 0) L.length)
def plC (L : List Pc) (fst : List Nat) (B : List Bool) (c : Nat) : List Bool := plL (clF L (agF L (plF B) (fun i => tq L 256 0 (gN fst c * 64 + i)) L.length) L.length)
theorem tq_at {L : List Pc} (hl : L.length ≤ 64) {q i : Nat} (hq : q < 256) (hi : i < L.length) : tq L 256 0 (q * 64 + i) = tkB (L.getD i zPc) ((q : Nat) : Int) := by
 have e1 : (q * 64 + i) / 64 = q := by omega
 have e2 : (q * 64 + i) % 64 = i := by omega
 unfold tq
 rw [e1, e2]
 simp [hq, hi]
theorem agF_af {L : List Pc} {f g : Nat → Bool} {b : Int} : ∀ (n : Nat), (∀ j, j < n → g j = tkB (L.getD j zPc) b) → agF L f g n = afF L f b n
 | 0, _ => rfl
 | n + 1, h => by
   have ih := agF_af (f := f) n (fun j hj => h j (by omega))
   have e := h n (by omega)
   unfold zPc at e
   unfold agF afF
   rw [ih, e]
theorem mk64_inj {f g : Nat → Bool} (h : mk64 f = mk64 g) {i : Nat} (hi : i < 64) : f i = g i := by
 have e : (mk64 f)[i]? = (mk64 g)[i]? := by rw [h]
 rw [mk64_get f i hi, mk64_get g i hi] at e
 injection e with e
 injection e
section
variable {L : List Pc} {num fst : List Nat} {lit : Nat → Lit}
theorem plC_is (hl : L.length ≤ 64) (nf : NumF lit 256 (gN num) (gN fst) fst.length) (hlit : ∀ b c, b < 256 → c < 256 → lit b = lit c → mk64 (fun i => tq L 256 0 (b * 64 + i)) = mk64 (fun i => tq L 256 0 (c * 64 + i))) (B : List Bool) {b : Nat} (hb : b < 256) : plC L fst B (gN num b) = plS L B b := by
 have hq := nf.fstlt _ (nf.numlt b hb)
 have hk := hlit _ _ hq hb (nf.lk b hb)
 unfold plC plS
 congr 1
 unfold stF
 rw [agF_af L.length (fun j hj => ?_)]
 have e := mk64_inj hk (show j < 64 by omega)
 rw [e, tq_at hl hb hj]
 have e2 : (UInt8.ofNat b).toNat = b := by simp; omega
 rw [e2]
theorem plC_run (hl : L.length ≤ 64) (nf : NumF lit 256 (gN num) (gN fst) fst.length) (hlit : ∀ b c, b < 256 → c < 256 → lit b = lit c → mk64 (fun i => tq L 256 0 (b * 64 + i)) = mk64 (fun i => tq L 256 0 (c * 64 + i))) : ∀ (t : List Nat) (B : List Bool), Txt t → t.foldl (fun x b => plC L fst x (gN num b)) B = t.foldl (plS L) B
 | [], _, _ => rfl
 | b :: t, B, ht => by
   rw [List.foldl_cons, List.foldl_cons, plC_is hl nf hlit B ht.tail.1]
   exact plC_run hl nf hlit t _ ht.tail.2
theorem plC_cols (hl : L.length ≤ 64) (nf : NumF lit 256 (gN num) (gN fst) fst.length) (hlit : ∀ b c, b < 256 → c < 256 → lit b = lit c → mk64 (fun i => tq L 256 0 (b * 64 + i)) = mk64 (fun i => tq L 256 0 (c * 64 + i))) : ∀ (u : List Nat) (B : List Bool), (∀ c ∈ u, c < fst.length) → u.foldl (plC L fst) B = (u.map (gN fst)).foldl (plS L) B ∧ Txt (u.map (gN fst))
 | [], _, _ => ⟨rfl, Txt.nil⟩
 | c :: u, B, hu => by
   have hc := hu c List.mem_cons_self
   obtain ⟨h1, h2⟩ := plC_cols hl nf hlit u (plC L fst B c) (fun x hx => hu x (List.mem_cons_of_mem _ hx))
   have h3 := plC_is hl nf hlit B (nf.fstlt c hc)
   rw [nf.numfst c hc] at h3
   refine ⟨?_, Txt.cons (nf.fstlt c hc) h2⟩
   rw [List.foldl_cons, List.map_cons, List.foldl_cons, h1, h3]
end
theorem txt_nt {t : List Nat} (ht : Txt t) : ntL (btOf t) = t := by
 unfold ntL btOf
 rw [List.map_map]
 conv => rhs; rw [← List.map_id t]
 apply List.map_congr_left
 intro b hb
 have := ht b hb
 simp
 omega
theorem plS_run {L : List Pc} (hl : L.length ≤ 64) {t : List Nat} (ht : Txt t) : t.foldl (plS L) (plZ L) = plL (mtF L (btOf t)) := by
 have := mtF_pl hl (btOf t) (clF L (upd (fun _ => false) 0) L.length)
 rw [txt_nt ht] at this
 exact this
def OfMany (L : List Pc) : Prop := ∃ B : List (List Bool), B.length = 257 ∧ (∀ a, a < 257 → ∀ b, b < 257 → gS (plZ L) B a = gS (plZ L) B b → a = b) ∧ ∀ a, a < 257 → ∃ t : By, gS (plZ L) B a = plL (mtF L t)
def OfFew (L : List Pc) : Prop := ∃ B : List (List Bool), B.length ≤ 256 ∧ ∀ t : By, ∃ a, a < B.length ∧ gS (plZ L) B a = plL (mtF L t)
theorem few_not_many {L : List Pc} (h : OfFew L) (k : OfMany L) : False := by
 obtain ⟨A, hA, hA2⟩ := h
 obtain ⟨B, hB, hB1, hB2⟩ := k
 have h1 : ∀ a, a < 257 → ∃ c, c < A.length ∧ gS (plZ L) A c = gS (plZ L) B a := fun a ha => by
  obtain ⟨t, ht⟩ := hB2 a ha
  obtain ⟨c, hc, e⟩ := hA2 t
  exact ⟨c, hc, by rw [e, ht]⟩
 have h2 : ∃ f : Nat → Nat, ∀ a, a < 257 → f a < A.length ∧ gS (plZ L) A (f a) = gS (plZ L) B a := by
  classical
  exact ⟨fun a => if h : a < 257 then (h1 a h).choose else 0, fun a ha => by simp only [dif_pos ha]; exact (h1 a ha).choose_spec⟩
 obtain ⟨f, hf⟩ := h2
 have := pigeon A.length 257 f (fun a ha => (hf a ha).1) (fun a ha b hb e => hB1 a ha b hb (by rw [← (hf a ha).2, ← (hf b hb).2, e]))
 omega
theorem Tryz.info80b : (Tryz.prog.info? 80).map (fun i => (i.zero, i.size, i.bytes)) = some (some (.agg (mk fun _ => false)), 65, 65) := by kernel_rfl
theorem cells80 : Tryz.prog.cellsOf 80 = 65 ∧ Tryz.prog.cellsOf 78 = 65 ∧ Tryz.prog.cellsOf 4 = 1 := ⟨by kernel_rfl, by kernel_rfl, by kernel_rfl⟩
theorem ktype80 : Tryz.prog.keyType 80 = true := by kernel_rfl
theorem keyOf_places (B : List Bool) (hl : B.length = 65) : ∃ l, keyOf Tryz.prog 80 (.agg (B.map fun (b : Bool) => Value.bool b).toArray) = some l := by
 obtain ⟨c1, c2, c3⟩ := cells80
 have hlits : ∃ ls, Tryz.prog.keyLits (Tryz.prog.types.size + 1) 80 (B.map fun (b : Bool) => Value.bool b) = some ls := by
  rw [size_types]
  unfold Program.keyLits
  simp only [Tryz.underlying80]
  have hlen : (B.map fun (b : Bool) => Value.bool b).length = 65 := by rw [List.length_map, hl]
  rw [if_pos ⟨by rw [hlen, c1], by first | (simp; done) | kernel_rfl⟩]
  have h71 : ∃ ls, Tryz.prog.keyLits 253 78 (B.map fun (b : Bool) => Value.bool b) = some ls := by
   unfold Program.keyLits
   simp only [Tryz.underlying78]
   rw [if_pos (by rw [hlen, c2]), mapM_some _ (fun i => [Lit.bool (B.getD i false)]) (List.range 65) (fun i hi => ?_)]
   · exact ⟨_, rfl⟩
   · have hi' : i < B.length := by rw [hl]; exact List.mem_range.1 hi
     have e : ((B.map fun (b : Bool) => Value.bool b).drop (i * Tryz.prog.cellsOf 4)).take (Tryz.prog.cellsOf 4) = [.bool (B.getD i false)] := by
      rw [c3, Nat.mul_one, List.drop_eq_getElem_cons (by rw [List.length_map]; exact hi')]
      simp [List.getD_eq_getElem?_getD, hi']
     rw [e]
     exact bool_key _ 251
  obtain ⟨ls, hls⟩ := h71
  have e : ((B.map fun (b : Bool) => Value.bool b).drop 0).take (Tryz.prog.cellsOf 78) = B.map fun (b : Bool) => Value.bool b := by
   rw [List.drop_zero, c2, List.take_of_length_le (by rw [hlen]; exact Nat.le_refl _)]
  simp only [List.mapM_cons, List.mapM_nil, e, hls]
  exact ⟨_, rfl⟩
 obtain ⟨ls, hls⟩ := hlits
 unfold keyOf
 simp only [Tryz.underlying80]
 rw [if_pos (by
  rw [ktype80]
  simp [Value.formed, Tryz.underlying80, c1, hl])]
 have e : (Value.agg (B.map fun (b : Bool) => Value.bool b).toArray).cells.toList = B.map fun (b : Bool) => Value.bool b := by simp [Value.cells]
 rw [e, hls]
 exact ⟨_, rfl⟩
theorem keyed80 : Keyed Tryz.prog 80 := Keyed.of_law (deep_law_laid (m := 254) (by kernel_rfl) (by decide) (by rw [size_types]; decide) (by kernel_rfl) (by simp [Tryz.underlying80]))
theorem keyOf_pl (B : List Bool) (hl : B.length = 65) : ∃ l, keyOf Tryz.prog 80 (.agg (mk (plF B))) = some l := by
 have e : mk (plF B) = (B.map fun (b : Bool) => Value.bool b).toArray := by
  conv => rhs; rw [← plL_plF hl]
  unfold mk plL
  rw [List.map_map]
  rfl
 rw [e]
 exact keyOf_places B hl
end Go.Proofs.YtdgoilkgplnhfaaGreat
