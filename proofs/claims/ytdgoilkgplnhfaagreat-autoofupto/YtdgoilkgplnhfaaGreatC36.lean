/-
  Match by its contract. Condition: lists and the text are no longer than a process can hold.
-/
import Derived.Test.YtdgoilkgplnhfaaGreatC35
set_option maxRecDepth 100000
set_option maxHeartbeats 16000000
namespace Go.Proofs.YtdgoilkgplnhfaaGreat
open Go.RowKit Go.Lib
def stF (L : List Pc) (f : Nat → Bool) (c : UInt8) : Nat → Bool := clF L (afF L f ((c.toNat : Nat) : Int) L.length) L.length
def mtF (L : List Pc) (s : By) : Nat → Bool := s.foldl (stF L) (clF L (upd (fun _ => false) 0) L.length)
theorem mtF_snoc (L : List Pc) (s : By) (c : UInt8) : mtF L (s ++ [c]) = stF L (mtF L s) c := by simp [mtF]
theorem wpList_build78 {ops : Array Oper} {rest : List Oper} {o : Oper} {a : Act} {w : World} {Q : Exit → Act → World → Prop} (hg : o.guard = none) (ho : o.op = .build 121 #[(0, .const (.bool true))])
 (h : wpList Tryz.prog ops Q rest (a.put o.dst (.agg (mk (upd (fun _ => false) 0)))) w) : wpList Tryz.prog ops Q (o :: rest) a w := by
 have e0 : ((#[(0, Operand.const (.bool true))] : Array (Nat × Operand)).map fun (i, x) => (i, a.eval x)).toList = [(0, .bool true)] := by simp [Act.eval]
 have e1 : (Tryz.prog.built 121 [(0, .bool true)]).isSome = true := by kernel_rfl
 have e2 : (Tryz.prog.built 121 [(0, .bool true)]).getD #[] = mk (upd (fun _ => false) 0) := by kernel_rfl
 refine wpList_build hg 121 _ ho (by rw [e0]; exact e1) ?_
 rw [e0, e2]
 exact h
def MaIs (L : List Pc) (s : By) (e : Ending) : Prop := (Rt L ∧ e = .returned (.tuple #[.bool (mtF L s L.length), .int .i64 0])) ∨ (¬ Rt L ∧ e = .returned (.tuple #[.bool false, .int .i64 1]))
theorem match_any (ao : Option Addr) (cap : Nat) (D : List PD) (s : By) (w : World) (hs : s.length ≤ 140737488351232) (hLen : ∀ d ∈ D, d.p.set.length ≤ 140737488351232) (hat : PcAt w ao D) :
 Calls Tryz.prog 31 #[.slice ao D.length cap, .string ⟨s.toArray⟩] w fun e w' => MaIs (D.map PD.p) s e ∧ Below w.heap.size w w' := by
 have HR := hide (rightL_any ao cap D w hLen hat)
 have HAT := hide hat
 have HLEN := hide hLen
 clear hat hLen
 go_enter Tryz.func31, Tryz.ntmps31
 go_wp2_with (fail)
 refine HR.out.mono ?_
 rintro e w1 ⟨h1, x1⟩
 have X1 := hide x1
 clear x1
 rcases h1 with ⟨hp, rfl⟩ | ⟨hp, rfl⟩
 · have HRT := hide hp
   obtain ⟨hzv, hsz⟩ := zero_of_info Tryz.info121
   have hl : D.length ≤ 64 := by simpa using hp.1
   have HZS := hide (mk_size fun _ => false)
   obtain ⟨z, hz⟩ : ∃ z, Hid (z = mk fun _ => false) := ⟨_, rfl⟩
   rw [← hz.out] at hzv HZS
   clear hp
   obtain ⟨n, hn⟩ : ∃ n, Hid (n = mk (clF (D.map PD.p) (upd (fun _ => false) 0) D.length)) := ⟨_, rfl⟩
   have HI : Hid ((Tryz.prog.info? 121).map (·.size) = some n.size) := by unfold Hid; rw [hn.out, hsz, mk_size]
   have HZ2 : Hid (z.size = n.size) := by unfold Hid; rw [hn.out, HZS.out, mk_size]
   have HAL : Hid (n.all (·.oneCell') = true) := by unfold Hid; rw [hn.out]; exact mk_all _
   obtain ⟨m0, hm0⟩ : ∃ m, Hid (m = mk (upd (fun _ => false) 0)) := ⟨_, rfl⟩
   have HB78 := hide (fun (ops : Array Oper) (rest : List Oper) (o : Oper) (a : Act) (w : World) (Q : Exit → Act → World → Prop) (hg : o.guard = none) (ho : o.op = .build 121 #[(0, .const (.bool true))]) (h : wpList Tryz.prog ops Q rest (a.put o.dst (.agg m0)) w) => wpList_build78 hg ho (by rw [hm0.out] at h; exact h))
   have HCL := hide (fun W (x : Below w.heap.size w W) => closed_any ao cap D (upd (fun _ => false) 0) W hl (HAT.out.below x))
   rw [← hn.out, ← hm0.out] at HCL
   have HTK := hide takers_any
   go_wp2_with (fail)
   refine (HTK.out w1).mono ?_
   rintro e w2 ⟨rfl, hw2⟩
   have B2 : Hid (w2.heap[w1.heap.size]? = some (.cells tkrs 149 (0, 0))) := by unfold Hid; rw [hw2]; exact heap_alloc_new _ _
   have X2 : Hid (Below w.heap.size w w2) := by unfold Hid; rw [hw2]; exact al X1.out _
   clear hw2
   go_wp2_with (first
    | (refine HB78.out _ _ _ _ _ _ rfl rfl ?_)
    | (go_at_call 71; refine (HCL.out _ X2.out).mono ?_; rintro e w3 ⟨rfl, x3⟩; have X3 := hide (bt X2.out x3 (Nat.le_refl _)); have B3 := hide ((x3.block _ (lt_of_block B2.out)).trans B2.out); clear x3)
    | (refine wpList_store_row rfl 121 (.tmp 7) (.tmp 15) rfl w3.heap.size n rfl rfl 121 z (heap_alloc_new _ _) HI.out HZ2.out HAL.out ?_; rw [World.setRow_alloc_new]))
   have HE0 : Hid (n = mk (mtF (D.map PD.p) (s.take 0))) := by unfold Hid mtF; rw [hn.out, List.take_zero, List.foldl_nil, List.length_map]
   have HAF := hide (fun f b W (x : Below w.heap.size w W) (hT : W.heap[w1.heap.size]? = some (.cells tkrs 149 (0, 0))) => after_any ao cap w1.heap.size D f b W hl (fun d hd => HRT.out.2.1 _ (List.mem_map.2 ⟨d, hd, rfl⟩)) HLEN.out (HAT.out.below x) hT)
   have BN := hide (heap_alloc_new w3 (.cells n 121))
   have XN := hide (al X3.out (.cells n 121))
   have BT := hide (((al (Below.refl _ _) (.cells n 121) : Below w3.heap.size w3 (w3.alloc (.cells n 121))).block _ (lt_of_block B3.out)).trans B3.out)
   have HLT : Hid (w1.heap.size < w3.heap.size) := lt_of_block B3.out
   have HW3 := hide X3.out.size
   clear HCL HB78 HTK
   go_loopw [18] (fun x wr => ∃ k : Nat, k ≤ s.length ∧ x = .int .i64 k ∧ Hid (wr.heap[w3.heap.size]? = some (.cells (mk (mtF (D.map PD.p) (s.take k))) 121 (0, 0))) ∧ Hid (wr.heap[w1.heap.size]? = some (.cells tkrs 149 (0, 0))) ∧ Hid (Below w.heap.size w wr)) (fun x _ => s.length - (RowKit.intOf x).toNat)
   case atStart => exact ⟨0, Nat.zero_le _, rfl, by rw [← HE0.out]; exact BN, BT, XN⟩
   case round =>
    obtain ⟨k, hk, rfl, BM, BT', X⟩ := hrel
    rename World => wr
    by_cases hlt : k < s.length
    · have hlt' : (k : Int) < (s.length : Int) := by omega
      obtain ⟨c, hcc⟩ : ∃ c, s[k] = c := ⟨_, rfl⟩
      have hg' : ∀ hk, (⟨s.toArray⟩ : ByteArray)[k]'hk = c := fun _ => hcc
      have HTS : Hid (s.take (k + 1) = s.take k ++ [c]) := by unfold Hid; rw [← hcc]; exact List.take_succ_eq_append_getElem hlt
      have HI1 : Hid ((Tryz.prog.info? 121).map (·.size) = some (mk (mtF (D.map PD.p) (s.take k))).size) := by unfold Hid; rw [hsz, mk_size]
      have HA1 := hide (fun W (x : Below w.heap.size w W) hT => HAF.out (mtF (D.map PD.p) (s.take k)) ((c.toNat : Nat) : Int) W x hT)
      obtain ⟨m, hm⟩ : ∃ m, Hid (m = mk (mtF (D.map PD.p) (s.take k))) := ⟨_, rfl⟩
      rw [← hm.out] at BM HI1 HA1
      have HE1 : Hid (mk (clF (D.map PD.p) (afF (D.map PD.p) (mtF (D.map PD.p) (s.take k)) ((c.toNat : Nat) : Int) D.length) D.length) = mk (mtF (D.map PD.p) (s.take (k + 1)))) := by unfold Hid; rw [HTS.out, mtF_snoc, stF, List.length_map]
      obtain ⟨q, hq⟩ : ∃ q, Hid (q = mk (mtF (D.map PD.p) (s.take (k + 1)))) := ⟨_, rfl⟩
      rw [HE1.out, ← hq.out] at HA1
      have HI2 : Hid ((Tryz.prog.info? 121).map (·.size) = some q.size) := by unfold Hid; rw [hq.out, hsz, mk_size]
      have HZ3 : Hid (m.size = q.size) := by unfold Hid; rw [hm.out, hq.out, mk_size, mk_size]
      have HAL3 : Hid (q.all (·.oneCell') = true) := by unfold Hid; rw [hq.out]; exact mk_all _
      have w2 : IntKind.i64.wrap (c.toNat : Int) = (c.toNat : Int) := by have := c.toNat_lt; simp [IntKind.wrap, IntKind.bits, IntKind.signed]; omega
      clear hzv hsz HTS HE1
      go_wp2
      refine wp_region_any (by kernel_rfl) ?_
      change wpAny _ _ _ _ _ _ _ (World.drew _)
      refine wpAny_take (i := 0) (v := .slice ao D.length cap) rfl (by kernel_rfl) (by kernel_rfl) (by kernel_rfl) (fun _ _ _ h => h) (Or.inl ⟨by rfl, fun w => by go_simp⟩) ?_
      refine wpAny_take (i := 1) (v := .slice (some ⟨w1.heap.size, 0, none⟩) 6 6) rfl (by kernel_rfl) (by kernel_rfl) (by kernel_rfl) (fun _ _ _ h => h) (Or.inl ⟨by rfl, fun w => by go_simp⟩) ?_
      refine wpAny_take (i := 3) (v := .string ⟨s.toArray⟩) rfl (by kernel_rfl) (by kernel_rfl) (by kernel_rfl) (fun _ _ _ h => h) (Or.inl ⟨by rfl, fun w => by go_simp⟩) ?_
      refine wpAny_take (i := 4) (v := .int .i64 k) rfl (by kernel_rfl) (by kernel_rfl) (by kernel_rfl) (fun _ _ _ h => h) (Or.inl ⟨by rfl, fun w => by go_simp⟩) ?_
      refine wpAny_take (i := 5) (v := .int .u8 (c.toNat : Nat)) rfl (by kernel_rfl) (by kernel_rfl) (by kernel_rfl) (fun _ _ _ h => h) (Or.inl ⟨by rfl, fun w => by go_simp⟩) ?_
      refine wpAny_take (i := 6) (v := .int .i64 (c.toNat : Nat)) rfl (by kernel_rfl) (by kernel_rfl) (by kernel_rfl) (fun _ _ _ h => h) (Or.inl ⟨by rfl, fun w => by go_simp⟩) ?_
      refine wpAny_ready (rs := [2]) (by kernel_rfl) (by simp) ?_
      refine AllReady.cons rfl (fun K hK => ?_) AllReady.nil
      rw [if_pos (by rfl)]
      refine wp_load_row 121 (.tmp 7) rfl w3.heap.size rfl 121 m (0, 0) _ BM.out Tryz.underlying121 rfl HI1.out ?_
      refine hK _ _ ?_
      clear hK K
      refine wpAny_ready (rs := [7]) (by kernel_rfl) (by simp) ?_
      refine AllReady.cons rfl (fun K hK => ?_) AllReady.nil
      go_simp
      refine (HA1.out _ (X.out.trans (below_drewN _ _ 1)) BT'.out).mono ?_
      rintro e w5 ⟨rfl, x5⟩
      have X5 := hide (bt X.out ((Below.refl _ _).drew.trans x5) (Nat.le_refl _))
      have BM5 := hide ((x5.block _ (lt_of_block BM.out)).trans BM.out)
      have BT5 := hide ((x5.block _ (lt_of_block BT'.out)).trans BT'.out)
      clear x5
      refine hK _ _ ?_
      clear hK K
      refine wpAny_ready (rs := [8]) (by kernel_rfl) (by simp) ?_
      refine AllReady.cons rfl (fun K hK => ?_) AllReady.nil
      rw [if_pos (by rfl)]
      refine wp_store_row 121 (.tmp 7) (.tmp 28) rfl w3.heap.size q rfl rfl 121 m BM5.out HI2.out HZ3.out HAL3.out ?_
      refine hK _ _ ?_
      clear hK K
      refine wpAny_done (by kernel_rfl) ?_ _
      have BM6 := hide (setRow_heap w5 w3.heap.size m q 121 (0, 0) BM5.out)
      have hk6 : Kept (fun i => i = w3.heap.size) w5 (w5.setRow w3.heap.size q) := ⟨rfl, rfl, rfl, by simp [World.setRow], fun i _ hi => by have hne : ¬ w3.heap.size = i := fun h => hi h.symm; simp [World.setRow, Array.getElem?_modify, hne]⟩
      have BT6 := hide ((hk6.block _ (lt_of_block BT5.out) (by have := HLT.out; omega)).trans BT5.out)
      have X6 := hide (below_setRow X5.out HW3.out q)
      clear hk6
      generalize w5.setRow w3.heap.size q = w6 at *
      go_wp2
      go_roundw
      case rel => exact ⟨k + 1, by omega, by go_num, by rw [← hq.out]; exact BM6, BT6, X6⟩
      case measure => simp [RowKit.intOf]; omega
    · have hnl : ¬ (k : Int) < (s.length : Int) := by omega
      have hk' : k = s.length := by omega
      subst hk'
      rw [List.take_length] at BM
      have h65 : (D.length : Int) < 65 := by omega
      have c0 : wr.cell? ⟨w3.heap.size, D.length, none⟩ = some (.bool (mtF (D.map PD.p) s D.length)) := by rw [cell_of_row _ _ _ _ _ _ BM.out]; exact mk_get _ _ (by omega)
      have HF : Hid (MaIs (D.map PD.p) s (.returned (.tuple #[.bool (mtF (D.map PD.p) s D.length), .int .i64 0]))) := .inl ⟨HRT.out, by rw [List.length_map]⟩
      generalize mtF (D.map PD.p) s D.length = r at *
      go_wp2
      go_ret2
      exact ⟨HF.out, X.out⟩
 · have HF := hide hp
   clear hp
   go_wp2
   go_ret2
   exact ⟨.inr ⟨HF.out, rfl⟩, X1.out⟩
end Go.Proofs.YtdgoilkgplnhfaaGreat
