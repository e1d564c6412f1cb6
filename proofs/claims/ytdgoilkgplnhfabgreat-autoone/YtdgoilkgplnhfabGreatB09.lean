/-
  Keys that are structs of one array: they are read as keys, and tell just their elements. Of the program its types alone: no condition.
-/
import Derived.Test.YtdgoilkgplnhfabGreatB06
import Derived.DeepKeys4
import Derived.Deep.WholeRow
import Derived.Laws.CopyOwn
import Derived.Great.BuildSlice
namespace Go.Proofs.YtdgoilkgplnhfabGreat
open Go.RowKit Go.Lib Go.Maps
theorem mapM_some {α β : Type} (f : α → Option β) (g : α → β) : ∀ l : List α, (∀ x ∈ l, f x = some (g x)) → l.mapM f = some (l.map g)
  | [], _ => rfl
  | x :: l, h => by
    rw [List.mapM_cons, h x List.mem_cons_self, mapM_some f g l (fun y hy => h y (List.mem_cons_of_mem _ hy))]
    rfl
theorem size_types : Tryz.prog.types.size = 194 := by kernel_rfl
theorem cells169 : Tryz.prog.cellsOf 117 = 256 ∧ Tryz.prog.cellsOf 115 = 256 ∧ Tryz.prog.cellsOf 5 = 1 := ⟨by kernel_rfl, by kernel_rfl, by kernel_rfl⟩
theorem ktype169 : Tryz.prog.keyType 117 = true := by kernel_rfl
theorem u8_key (b : Nat) (hb : b < 256) (d : Nat) : Tryz.prog.keyLits (d + 1) 5 [.int .u8 (b : Int)] = some [.int .u8 (b : Int)] := by
  unfold Program.keyLits
  simp only [Tryz.underlying5]
  rw [if_pos (by simp [Lit.wf, IntKind.min, IntKind.max, IntKind.signed, IntKind.bits]; omega)]
theorem keyOf_leads (B : List Nat) (hl : B.length = 256) (hv : ∀ x ∈ B, x < 256) : ∃ l, keyOf Tryz.prog 117 (.agg (B.map fun (b : Nat) => Value.int .u8 (b : Int)).toArray) = some l := by
  obtain ⟨c1, c2, c3⟩ := cells169
  have hlits : ∃ ls, Tryz.prog.keyLits (Tryz.prog.types.size + 1) 117 (B.map fun (b : Nat) => Value.int .u8 (b : Int)) = some ls := by
    rw [size_types]
    unfold Program.keyLits
    simp only [Tryz.underlying117]
    have hlen : (B.map fun (b : Nat) => Value.int .u8 (b : Int)).length = 256 := by rw [List.length_map, hl]
    rw [if_pos ⟨by rw [hlen, c1], by first | (simp; done) | kernel_rfl⟩]
    have h167 : ∃ ls, Tryz.prog.keyLits 194 115 (B.map fun (b : Nat) => Value.int .u8 (b : Int)) = some ls := by
      unfold Program.keyLits
      simp only [Tryz.underlying115]
      rw [if_pos (by rw [hlen, c2]), mapM_some _ (fun i => [Lit.int .u8 ((gN B i : Nat) : Int)]) (List.range 256) (fun i hi => ?_)]
      · exact ⟨_, rfl⟩
      · have hi' : i < B.length := by rw [hl]; exact List.mem_range.1 hi
        have e : ((B.map fun (b : Nat) => Value.int .u8 (b : Int)).drop (i * Tryz.prog.cellsOf 5)).take (Tryz.prog.cellsOf 5) = [.int .u8 ((gN B i : Nat) : Int)] := by
          rw [c3, Nat.mul_one, List.drop_eq_getElem_cons (by rw [List.length_map]; exact hi'), gN_lt hi']
          simp
        rw [e]
        exact u8_key _ (by rw [gN_lt hi']; exact hv _ (List.getElem_mem hi')) 192
    obtain ⟨ls, hls⟩ := h167
    have e : ((B.map fun (b : Nat) => Value.int .u8 (b : Int)).drop 0).take (Tryz.prog.cellsOf 115) = B.map fun (b : Nat) => Value.int .u8 (b : Int) := by
      rw [List.drop_zero, c2, List.take_of_length_le (by rw [hlen]; exact Nat.le_refl _)]
    simp only [List.mapM_cons, List.mapM_nil, e, hls]
    exact ⟨_, rfl⟩
  obtain ⟨ls, hls⟩ := hlits
  unfold keyOf
  simp only [Tryz.underlying117]
  rw [if_pos (by
    rw [ktype169]
    simp [Value.formed, Tryz.underlying117, c1, hl])]
  have e : (Value.agg (B.map fun (b : Nat) => Value.int .u8 (b : Int)).toArray).cells.toList = B.map fun (b : Nat) => Value.int .u8 (b : Int) := by simp [Value.cells]
  rw [e, hls]
  exact ⟨_, rfl⟩
theorem keyed169 : Keyed Tryz.prog 117 := Keyed.of_law (deep_law_laid (m := 195) (by kernel_rfl) (by decide) (by rw [size_types]; decide) (by kernel_rfl) (by simp [Tryz.underlying117]))
theorem cells73 : Tryz.prog.cellsOf 58 = 64 ∧ Tryz.prog.cellsOf 56 = 64 ∧ Tryz.prog.cellsOf 4 = 1 := ⟨by kernel_rfl, by kernel_rfl, by kernel_rfl⟩
theorem ktype73 : Tryz.prog.keyType 58 = true := by kernel_rfl
theorem bool_key (b : Bool) (d : Nat) : Tryz.prog.keyLits (d + 1) 4 [.bool b] = some [.bool b] := by
  unfold Program.keyLits
  simp only [Tryz.underlying4]
theorem keyOf_taking (B : List Bool) (hl : B.length = 64) : ∃ l, keyOf Tryz.prog 58 (.agg (B.map fun (b : Bool) => Value.bool b).toArray) = some l := by
  obtain ⟨c1, c2, c3⟩ := cells73
  have hlits : ∃ ls, Tryz.prog.keyLits (Tryz.prog.types.size + 1) 58 (B.map fun (b : Bool) => Value.bool b) = some ls := by
    rw [size_types]
    unfold Program.keyLits
    simp only [Tryz.underlying58]
    have hlen : (B.map fun (b : Bool) => Value.bool b).length = 64 := by rw [List.length_map, hl]
    rw [if_pos ⟨by rw [hlen, c1], by first | (simp; done) | kernel_rfl⟩]
    have h71 : ∃ ls, Tryz.prog.keyLits 194 56 (B.map fun (b : Bool) => Value.bool b) = some ls := by
      unfold Program.keyLits
      simp only [Tryz.underlying56]
      rw [if_pos (by rw [hlen, c2]), mapM_some _ (fun i => [Lit.bool (B.getD i false)]) (List.range 64) (fun i hi => ?_)]
      · exact ⟨_, rfl⟩
      · have hi' : i < B.length := by rw [hl]; exact List.mem_range.1 hi
        have e : ((B.map fun (b : Bool) => Value.bool b).drop (i * Tryz.prog.cellsOf 4)).take (Tryz.prog.cellsOf 4) = [.bool (B.getD i false)] := by
          rw [c3, Nat.mul_one, List.drop_eq_getElem_cons (by rw [List.length_map]; exact hi')]
          simp [List.getD_eq_getElem?_getD, hi']
        rw [e]
        exact bool_key _ 192
    obtain ⟨ls, hls⟩ := h71
    have e : ((B.map fun (b : Bool) => Value.bool b).drop 0).take (Tryz.prog.cellsOf 56) = B.map fun (b : Bool) => Value.bool b := by
      rw [List.drop_zero, c2, List.take_of_length_le (by rw [hlen]; exact Nat.le_refl _)]
    simp only [List.mapM_cons, List.mapM_nil, e, hls]
    exact ⟨_, rfl⟩
  obtain ⟨ls, hls⟩ := hlits
  unfold keyOf
  simp only [Tryz.underlying58]
  rw [if_pos (by
    rw [ktype73]
    simp [Value.formed, Tryz.underlying58, c1, hl])]
  have e : (Value.agg (B.map fun (b : Bool) => Value.bool b).toArray).cells.toList = B.map fun (b : Bool) => Value.bool b := by simp [Value.cells]
  rw [e, hls]
  exact ⟨_, rfl⟩
theorem keyed73 : Keyed Tryz.prog 58 := Keyed.of_law (deep_law_laid (m := 195) (by kernel_rfl) (by decide) (by rw [size_types]; decide) (by kernel_rfl) (by simp [Tryz.underlying58]))
theorem Tryz.info73 : (Tryz.prog.info? 58).map (fun i => (i.zero, i.size)) = some (some (.agg (Array.replicate 64 (Value.bool false))), 64) := by kernel_rfl
set_option maxRecDepth 100000 in
set_option maxHeartbeats 4000000 in
theorem numT_any (N : Nat) (c0 : Value) (look : Nat → Array Value) (lit : Nat → Lit) (w : World) (hN : N ≤ 4294967296) (hk : ∀ i, i < N → keyOf Tryz.prog 58 (.agg (look i)) = some (lit i)) (hls : ∀ i, i < N → (look i).size = 64) (hla : ∀ i, i < N → (look i).all (·.oneCell') = true) (hkl : ∀ i, i < N → WideAt.IsKeyLit (lit i))
    (hc : ∀ i, i < N → ∀ W, Below w.heap.size w W → Calls Tryz.prog 21 #[.int .i64 (i : Nat), c0] W fun e w' => e = .returned (.agg (look i)) ∧ Below W.heap.size W w') :
    Calls Tryz.prog 20 #[.int .i64 (N : Nat), .func (.func 21) #[] #[c0]] w fun e w' => (∃ v1 v2, e = .returned (.tuple #[v1, v2]) ∧ ∃ num fst, NmDone w.heap.size lit N v1 v2 num fst w') ∧ Below w.heap.size w w' := by
  obtain ⟨i3, hi3, hz30, hz31, hz32⟩ := info_parts Tryz.info3n
  have hz0 : ∀ W, (zeroValue 3).run Tryz.prog W = .ok (.int .i64 0) W := fun W => Tryz.zeroValue3 W
  have hmm : ∀ W : World, (Instr.makeMap 91 none).run Tryz.prog W = .ok (.map (some W.heap.size)) (W.alloc (.map #[] 0)) := fun W => rfl
  have HC := hide hc
  have HK := hide hk
  have HKL := hide hkl
  have HLS := hide hls
  have HLA := hide hla
  obtain ⟨hzv, hsz⟩ := zero_of_info Tryz.info73
  obtain ⟨z, hz⟩ : ∃ z, z = (Array.replicate 64 (Value.bool false)) := ⟨_, rfl⟩
  have hzs : z.size = 64 := by rw [hz]; simp
  rw [← hz] at hzv
  have HZS := hide hzs
  have HSZ := hide hsz
  clear hz hzs hsz hls hla
  clear hc hk hkl
  have S0 := hide (fun w2 h1 h2 => NmS.start 58 w lit N w2 h1 h2)
  go_enter Tryz.func20, Tryz.ntmps20
  go_wp2_with (at_make; refine wpList_make_full _ rfl (.tmp 12) (.tmp 12) 22 rfl w.heap.size 3 i3 (.int .i64 0) 1 Tryz.underlying22 hi3 hz30 hz31 .i64 .i64 _ _ N rfl rfl rfl rfl (by rw [hz32]; omega) (by unfold maxLen; omega) (by simp) ?_; intro w2 h1 h2; have S1 := hide (S0.out w2 h1 h2); clear h1 h2)
  go_loopg [5, 15] (N + 1) (fun g v2 x wr => ∃ (num fst : List Nat), x = .int .i64 (num.length : Nat) ∧ Hid (NmS 58 w lit N w.heap.size (.slice (some ⟨w.heap.size + 1, 0, none⟩) N N) v2 num fst wr) ∧ N - num.length < g)
  case atStart => exact ⟨[], [], rfl, S1, by simp⟩
  case round =>
    obtain ⟨num, fst, rfl, S, hg⟩ := hrel
    have HG := hide hg
    clear hg S1 S0
    have hle := S.out.le
    obtain ⟨a2, k2, hv2, _⟩ := own_shape S.out.o2
    subst hv2
    by_cases hi : num.length < N
    · have hi' : (num.length : Int) < (N : Int) := by omega
      have H1 := hide (HC.out num.length hi wr S.out.bel)
      go_wp2_with (fail)
      refine H1.out.mono ?_
      rintro e w3 ⟨rfl, x3⟩
      clear H1
      obtain ⟨m, hmm2⟩ : ∃ m, m = look num.length := ⟨_, rfl⟩
      have HI : Hid ((Tryz.prog.info? 58).map (·.size) = some m.size) := by unfold Hid; rw [HSZ.out, hmm2, HLS.out _ hi]
      have HZ2 : Hid (z.size = m.size) := by unfold Hid; rw [HZS.out, hmm2, HLS.out _ hi]
      have HAL : Hid (m.all (·.oneCell') = true) := by unfold Hid; rw [hmm2]; exact HLA.out _ hi
      have HK0 := HK.out num.length hi
      rw [← hmm2] at HK0 ⊢
      have HBZ := hide (heap_alloc_new w3 (.cells z 58))
      have HBM := heap_alloc_new w3 (.cells m 58)
      have y3 : Below w3.heap.size w3 (w3.alloc (.cells m 58)) := al (Below.refl _ _) _
      have S4 := S.out.below (bt x3 y3 (Nat.le_refl _))
      have bb3 : ∃ bb, bb = w3.heap.size := ⟨_, rfl⟩
      clear hmm2 x3 y3
      go_upto_region 7 with (refine wpList_store_row rfl 58 (.tmp 8) (.tmp 20) rfl w3.heap.size m rfl rfl 58 z HBZ.out HI.out HZ2.out HAL.out ?_; rw [World.setRow_alloc_new])
      generalize w3.alloc (.cells m 58) = w5 at *
      obtain ⟨bb, hbb⟩ := bb3
      rw [← hbb] at HBM ⊢
      clear hbb HBZ
      have HBM := hide HBM
      rename World => w3
      have S3 := hide S4
      clear S4
      obtain ⟨D, hown, hh, ha⟩ := S3.out.map
      have HK1 := hide HK0
      clear HK0
      have HOWN := hide hown
      have HA := hide ha
      have hfl : fst.length ≤ num.length := by
        have h := S3.out.nf
        exact pigeon num.length fst.length (gN fst) h.fstlt (fun i h1 j h2 e => by rw [← h.numfst i h1, ← h.numfst j h2, e])
      by_cases hm : lit num.length ∈ fst.map lit
      · have hhas : Maps.has D (lit num.length) = true := (hh _).2 hm
        have HHIT : Hid (∀ c : Int, D.atKey (lit num.length) (.lit (.int .i64 0)) = .lit (.int .i64 c) → ∃ n, n < fst.length ∧ lit (gN fst n) = lit num.length ∧ c = (n : Int)) := fun c hc => by
          obtain ⟨n, hn, e, rfl⟩ := atKey_lit HA.out hc hm
          rw [List.length_map] at hn
          refine ⟨n, hn, ?_, rfl⟩
          rw [← e, List.getElem_map, gN_lt hn]
        obtain ⟨⟨u1, q1⟩, q2⟩ := S3.out.slot hi
        have HST := hide (fun n hn he => S3.out.hit (n := n) hi hn he)
        go_wp2_with (first | (refine wpList_load_row rfl 58 (.tmp 8) rfl bb rfl 58 m (0, 0) _ HBM.out Tryz.underlying58 rfl HI.out ?_) | (at_lookup; refine wpList_lookup_own_ok_int _ rfl _ _ 91 rfl 58 3 .i64 keyed73 Tryz.underlying91 Tryz.underlying3 (hz0 _) w.heap.size _ D rfl HOWN.out _ _ rfl HK1.out ?_; intro c hat hwc; obtain ⟨n, hn, hne, rfl⟩ := HHIT.out c hat; have S4 := hide (HST.out n hn hne); clear hat hwc hn hne))
        go_roundg (N - (num.length + 1) + 1)
        case measure => have := HG.out; omega
        case rel => exact ⟨num ++ [n], fst, by simp, S4, by simp⟩
      · have hhas : Maps.has D (lit num.length) = false := by
          cases hx : Maps.has D (lit num.length) with
          | false => rfl
          | true => exact absurd ((hh _).1 hx) hm
        have HPL : Hid (plainElem (H := Unit) Tryz.prog 3 (.int .i64 (fst.length : Int)) = some (.lit (.int .i64 (fst.length : Int)), [])) := plainElem_int Tryz.underlying3 (by simp [Lit.wf, IntKind.min, IntKind.max, IntKind.signed, IntKind.bits]; omega)
        have HFN : Hid ((fst.map lit).length < maxLen) := by unfold Hid maxLen; rw [List.length_map]; omega
        have HPUT := hide (fun (w4 : World) h1 (t4 : w3.mapTurned w4 w.heap.size) => S3.out.put (w' := w4) hm (HKL.out _ hi) hh ha HOWN.out h1 t4)
        go_wp2_with (first
          | (refine wpList_load_row rfl 58 (.tmp 8) rfl bb rfl 58 m (0, 0) _ HBM.out Tryz.underlying58 rfl HI.out ?_)
          | (at_lookup; refine wpList_lookup_own_ok_int _ rfl _ _ 91 rfl 58 3 .i64 keyed73 Tryz.underlying91 Tryz.underlying3 (hz0 _) w.heap.size _ D rfl HOWN.out _ _ rfl HK1.out ?_; intro c hat hwc; clear hat hwc)
          | (at_mapUpdate; refine wpList_mapUpdate_in _ rfl _ _ _ 91 rfl 58 3 keyed73 Tryz.underlying91 _ w.heap.size _ D rfl HOWN.out HFN.out _ _ _ rfl rfl HK1.out _ [] HPL.out ?_; intro w4 h4 t4; have S4 := hide (HPUT.out w4 h4 t4); have O5 := hide S4.out.o5; have HN5 := hide (one_int w4 num.length 3); have HS5 : Hid (w.heap.size ≤ (w4.alloc (.cells #[.int .i64 (num.length : Nat)] 3)).heap.size) := S4.out.s5; clear h4 t4)
          | (at_builtin; refine wpList_append_view rfl (.tmp 34) (.tmp 36) 22 rfl w.heap.size 3 i3 (.int .i64 0) 1 8 Tryz.underlying22 hi3 hz30 hz31 hz32 rfl (by decide) _ fst.length (nCells fst) rfl O5.out ⟨w4.heap.size, 0, none⟩ 1 1 [.int .i64 (num.length : Nat)] rfl rfl HN5.out (by simp [Value.oneCell']) (by decide) (by unfold maxLen; omega) (by omega) HS5.out ?_; intro v6 w6 g1 g2; obtain ⟨⟨⟨u6, q1⟩, q2⟩, S6⟩ := S4.out.app hi g1 g2; have S6 := hide S6; clear g1 g2))
        go_roundg (N - (num.length + 1) + 1)
        case measure => have := HG.out; omega
        case rel => exact ⟨num ++ [fst.length], fst ++ [num.length], by simp, S6, by simp⟩
    · have hi' : ¬ (num.length : Int) < (N : Int) := by omega
      go_wp2
      go_ret2
      refine ⟨⟨_, _, rfl, num, fst, ?_⟩, S.out.bel⟩
      have e : num.length = N := by omega
      have h1 := S.out.o1
      rw [e, Nat.sub_self, List.replicate_zero, List.append_nil] at h1
      exact ⟨h1, S.out.o2, S.out.ap, e, by have := S.out.nf; rw [e] at this; exact this⟩
section
variable {P : Program}
theorem run_loadVar_at (w : World) (p : Addr) (ty : TypeId) (cs : Array Value) (d : TypeDesc) (hc : ∀ j v, cs[j]? = some v → w.cell? (p.add j) = some v)
    (hu : P.underlying ty = some d) (hd : (match d with | .struct _ | .array _ _ => true | _ => false) = true) (hi : (P.info? ty).map (·.size) = some cs.size) :
    (loadVar ty p).run P w = .ok (.agg cs) w := by
  have hl : (loadCells p cs.toList.length).run P w = .ok cs.toList.toArray w :=
    run_loadCells_list (P := P) w p cs.toList (fun j v hv => hc j v (by simpa using hv))
  cases hq : P.info? ty with
  | none => simp [hq] at hi
  | some i =>
    have hs : i.size = cs.size := by simpa [hq] using hi
    have hagg : (isAgg ty).run P w = .ok true w := by
      unfold isAgg
      rw [Sem.run_bind, run_underlying hu w]
      cases d <;> simp_all
    simp only [Array.length_toList, Array.toArray_toList] at hl
    simp [loadVar, Sem.run_bind, hagg, sizeOf, typeInfo, hq, hs, hl]
theorem wpList_load_at {ops : Array Oper} {rest : List Oper} {o : Oper} {a : Act} {w : World} {Q : Exit → Act → World → Prop} (hgd : o.guard = none) (ty : TypeId) (x : Operand) (ho : o.op = .load ty x)
    (p : Addr) (hx : a.eval x = .pointer (some p)) (cs : Array Value) (d : TypeDesc) (hc : ∀ j v, cs[j]? = some v → w.cell? (p.add j) = some v)
    (hu : P.underlying ty = some d) (hd : (match d with | .struct _ | .array _ _ => true | _ => false) = true) (hi : (P.info? ty).map (·.size) = some cs.size)
    (h : wpList P ops Q rest (a.put o.dst (.agg cs)) w) : wpList P ops Q (o :: rest) a w :=
  wpList_plain hgd fun _ hK => by
    unfold Oper.wp execOp
    simp only [ho, hx, Instr.loadAt, Instr.sureAddr, Sem.run_bind, Sem.run_pure, Result.andThen_ok, run_loadVar_at w p ty cs d hc hu hd hi]
    exact hK _ _ h
theorem wpList_insert_in {H : Type} {ops : Array Oper} {rest : List Oper} {o : Oper} {a : Act} {w : World} {Q : Exit → Act → World → Prop} (hg : o.guard = none) (m x v : Operand) (t : TypeId) (hop : o.op = Op.insert t m x v)
    (k e : TypeId) (K : Keyed P k) (ht : P.underlying t = some (.map k e)) (R : Value → Option (DataW H × List MemPlace)) (b n : Nat) (D : DataW H)
    (hm : a.eval m = .map (some b)) (hown : w.ownsMap P k R b n D) (hn : n < maxLen) (key val : Value) (kl : Lit) (hx : a.eval x = key) (hv : a.eval v = val) (hkey : keyOf P k key = some kl)
    (d : DataW H) (ps : List MemPlace) (hval : R val = some (d, ps))
    (hK : ∀ w', w'.ownsMap P k R b (n + 1) (D.put kl d) → w.mapTurned w' b → wpList P ops Q rest (a.put o.dst undef) w') :
    wpList P ops Q (o :: rest) a w := by
  refine wpList_plain hg fun K' hK' => ?_
  obtain ⟨w', hrun, r1, r2⟩ := hown.store K ht hn hkey hval
  unfold Oper.wp
  simp [execOp, hop, hm, hx, hv, hrun, Result.andThen]
  exact hK' _ _ (hK w' r1 r2)
theorem wpList_buildOne {ops : Array Oper} {rest : List Oper} {o : Oper} {a : Act} {w : World} {Q : Exit → Act → World → Prop} (hg : o.guard = none) (t e : TypeId) (x : Operand) (ho : o.op = .buildSlice t 1 #[(0, x)])
    (cs : Array Value) (hx : a.eval x = .agg cs) (ie : TypeInfo) (z : Value) (hu : P.underlying t = some (.slice e)) (hie : P.info? e = some ie) (hz : ie.zero = some z) (hsz : ie.size = cs.size) (h0 : 0 < cs.size) (hsm : cs.size ≤ 2 ^ 24)
    (h : wpList P ops Q rest (a.put o.dst (.slice (some ⟨w.heap.size, 0, none⟩) 1 1)) (w.alloc (.cells cs e))) : wpList P ops Q (o :: rest) a w := by
  obtain ⟨r, hr, hrs, hrk⟩ := Great.fill_dense (s := cs.size) h0 [.agg cs] 0 ((Array.range (1 * ie.size)).map (z.cells[· % z.cells.size]!)) (fun v hv => by rw [List.mem_singleton.1 hv]; rfl) (by simp [hsz])
  have e : r = cs := by
    apply Array.ext
    · rw [hrs]; simp [hsz]
    · intro k h1 h2
      have := hrk k
      rw [if_pos ⟨by omega, by simp; exact h2⟩] at this
      rw [Array.getElem?_eq_getElem h1, Nat.div_eq_of_lt h2, Nat.mod_eq_of_lt h2] at this
      simpa [Value.cells, h2] using this
  subst e
  refine wpList_buildSlice hg t e 1 _ ho r ie z hu hie hz (by rw [hsz]; omega) (by rw [hsz]; omega) ?_ h
  rw [hsz] at hr ⊢
  rw [← hr]
  simp [hx]
end
theorem Tryz.info169 : (Tryz.prog.info? 117).map (fun i => (i.zero, i.size)) = some (some (.agg (Array.replicate 256 (Value.int .u8 0))), 256) := by kernel_rfl
set_option maxRecDepth 100000 in
set_option maxHeartbeats 4000000 in
theorem numL_any (N : Nat) (c0 c1 : Value) (look : Nat → Array Value) (lit : Nat → Lit) (w : World) (hN : N ≤ 4294967296) (hk : ∀ i, i < N → keyOf Tryz.prog 117 (.agg (look i)) = some (lit i)) (hls : ∀ i, i < N → (look i).size = 256) (hla : ∀ i, i < N → (look i).all (·.oneCell') = true) (hkl : ∀ i, i < N → WideAt.IsKeyLit (lit i))
    (hc : ∀ i, i < N → ∀ W, Below w.heap.size w W → Calls Tryz.prog 60 #[.int .i64 (i : Nat), c0, c1] W fun e w' => e = .returned (.agg (look i)) ∧ Below W.heap.size W w') :
    Calls Tryz.prog 59 #[.int .i64 (N : Nat), .func (.func 60) #[] #[c0, c1]] w fun e w' => (∃ v1 v2, e = .returned (.tuple #[v1, v2]) ∧ ∃ num fst, NmDone w.heap.size lit N v1 v2 num fst w') ∧ Below w.heap.size w w' := by
  obtain ⟨i3, hi3, hz30, hz31, hz32⟩ := info_parts Tryz.info3n
  have hz0 : ∀ W, (zeroValue 3).run Tryz.prog W = .ok (.int .i64 0) W := fun W => Tryz.zeroValue3 W
  have hmm : ∀ W : World, (Instr.makeMap 135 none).run Tryz.prog W = .ok (.map (some W.heap.size)) (W.alloc (.map #[] 0)) := fun W => rfl
  have HC := hide hc
  have HK := hide hk
  have HKL := hide hkl
  have HLS := hide hls
  have HLA := hide hla
  obtain ⟨hzv, hsz⟩ := zero_of_info Tryz.info169
  obtain ⟨z, hz⟩ : ∃ z, z = (Array.replicate 256 (Value.int .u8 0)) := ⟨_, rfl⟩
  have hzs : z.size = 256 := by rw [hz]; simp
  rw [← hz] at hzv
  have HZS := hide hzs
  have HSZ := hide hsz
  clear hz hzs hsz hls hla
  clear hc hk hkl
  have S0 := hide (fun w2 h1 h2 => NmS.start 117 w lit N w2 h1 h2)
  go_enter Tryz.func59, Tryz.ntmps59
  go_wp2_with (at_make; refine wpList_make_full _ rfl (.tmp 12) (.tmp 12) 22 rfl w.heap.size 3 i3 (.int .i64 0) 1 Tryz.underlying22 hi3 hz30 hz31 .i64 .i64 _ _ N rfl rfl rfl rfl (by rw [hz32]; omega) (by unfold maxLen; omega) (by simp) ?_; intro w2 h1 h2; have S1 := hide (S0.out w2 h1 h2); clear h1 h2)
  go_loopg [5, 15] (N + 1) (fun g v2 x wr => ∃ (num fst : List Nat), x = .int .i64 (num.length : Nat) ∧ Hid (NmS 117 w lit N w.heap.size (.slice (some ⟨w.heap.size + 1, 0, none⟩) N N) v2 num fst wr) ∧ N - num.length < g)
  case atStart => exact ⟨[], [], rfl, S1, by simp⟩
  case round =>
    obtain ⟨num, fst, rfl, S, hg⟩ := hrel
    have HG := hide hg
    clear hg S1 S0
    have hle := S.out.le
    obtain ⟨a2, k2, hv2, _⟩ := own_shape S.out.o2
    subst hv2
    by_cases hi : num.length < N
    · have hi' : (num.length : Int) < (N : Int) := by omega
      have H1 := hide (HC.out num.length hi wr S.out.bel)
      go_wp2_with (fail)
      refine H1.out.mono ?_
      rintro e w3 ⟨rfl, x3⟩
      clear H1
      obtain ⟨m, hmm2⟩ : ∃ m, m = look num.length := ⟨_, rfl⟩
      have HI : Hid ((Tryz.prog.info? 117).map (·.size) = some m.size) := by unfold Hid; rw [HSZ.out, hmm2, HLS.out _ hi]
      have HZ2 : Hid (z.size = m.size) := by unfold Hid; rw [HZS.out, hmm2, HLS.out _ hi]
      have HAL : Hid (m.all (·.oneCell') = true) := by unfold Hid; rw [hmm2]; exact HLA.out _ hi
      have HK0 := HK.out num.length hi
      rw [← hmm2] at HK0 ⊢
      have HBZ := hide (heap_alloc_new w3 (.cells z 117))
      have HBM := heap_alloc_new w3 (.cells m 117)
      have y3 : Below w3.heap.size w3 (w3.alloc (.cells m 117)) := al (Below.refl _ _) _
      have S4 := S.out.below (bt x3 y3 (Nat.le_refl _))
      have bb3 : ∃ bb, bb = w3.heap.size := ⟨_, rfl⟩
      clear hmm2 x3 y3
      go_upto_region 7 with (refine wpList_store_row rfl 117 (.tmp 8) (.tmp 20) rfl w3.heap.size m rfl rfl 117 z HBZ.out HI.out HZ2.out HAL.out ?_; rw [World.setRow_alloc_new])
      generalize w3.alloc (.cells m 117) = w5 at *
      obtain ⟨bb, hbb⟩ := bb3
      rw [← hbb] at HBM ⊢
      clear hbb HBZ
      have HBM := hide HBM
      rename World => w3
      have S3 := hide S4
      clear S4
      obtain ⟨D, hown, hh, ha⟩ := S3.out.map
      have HK1 := hide HK0
      clear HK0
      have HOWN := hide hown
      have HA := hide ha
      have hfl : fst.length ≤ num.length := by
        have h := S3.out.nf
        exact pigeon num.length fst.length (gN fst) h.fstlt (fun i h1 j h2 e => by rw [← h.numfst i h1, ← h.numfst j h2, e])
      by_cases hm : lit num.length ∈ fst.map lit
      · have hhas : Maps.has D (lit num.length) = true := (hh _).2 hm
        have HHIT : Hid (∀ c : Int, D.atKey (lit num.length) (.lit (.int .i64 0)) = .lit (.int .i64 c) → ∃ n, n < fst.length ∧ lit (gN fst n) = lit num.length ∧ c = (n : Int)) := fun c hc => by
          obtain ⟨n, hn, e, rfl⟩ := atKey_lit HA.out hc hm
          rw [List.length_map] at hn
          refine ⟨n, hn, ?_, rfl⟩
          rw [← e, List.getElem_map, gN_lt hn]
        obtain ⟨⟨u1, q1⟩, q2⟩ := S3.out.slot hi
        have HST := hide (fun n hn he => S3.out.hit (n := n) hi hn he)
        go_wp2_with (first | (refine wpList_load_row rfl 117 (.tmp 8) rfl bb rfl 117 m (0, 0) _ HBM.out Tryz.underlying117 rfl HI.out ?_) | (at_lookup; refine wpList_lookup_own_ok_int _ rfl _ _ 135 rfl 117 3 .i64 keyed169 Tryz.underlying135 Tryz.underlying3 (hz0 _) w.heap.size _ D rfl HOWN.out _ _ rfl HK1.out ?_; intro c hat hwc; obtain ⟨n, hn, hne, rfl⟩ := HHIT.out c hat; have S4 := hide (HST.out n hn hne); clear hat hwc hn hne))
        go_roundg (N - (num.length + 1) + 1)
        case measure => have := HG.out; omega
        case rel => exact ⟨num ++ [n], fst, by simp, S4, by simp⟩
      · have hhas : Maps.has D (lit num.length) = false := by
          cases hx : Maps.has D (lit num.length) with
          | false => rfl
          | true => exact absurd ((hh _).1 hx) hm
        have HPL : Hid (plainElem (H := Unit) Tryz.prog 3 (.int .i64 (fst.length : Int)) = some (.lit (.int .i64 (fst.length : Int)), [])) := plainElem_int Tryz.underlying3 (by simp [Lit.wf, IntKind.min, IntKind.max, IntKind.signed, IntKind.bits]; omega)
        have HFN : Hid ((fst.map lit).length < maxLen) := by unfold Hid maxLen; rw [List.length_map]; omega
        have HPUT := hide (fun (w4 : World) h1 (t4 : w3.mapTurned w4 w.heap.size) => S3.out.put (w' := w4) hm (HKL.out _ hi) hh ha HOWN.out h1 t4)
        go_wp2_with (first
          | (refine wpList_load_row rfl 117 (.tmp 8) rfl bb rfl 117 m (0, 0) _ HBM.out Tryz.underlying117 rfl HI.out ?_)
          | (at_lookup; refine wpList_lookup_own_ok_int _ rfl _ _ 135 rfl 117 3 .i64 keyed169 Tryz.underlying135 Tryz.underlying3 (hz0 _) w.heap.size _ D rfl HOWN.out _ _ rfl HK1.out ?_; intro c hat hwc; clear hat hwc)
          | (at_mapUpdate; refine wpList_mapUpdate_in _ rfl _ _ _ 135 rfl 117 3 keyed169 Tryz.underlying135 _ w.heap.size _ D rfl HOWN.out HFN.out _ _ _ rfl rfl HK1.out _ [] HPL.out ?_; intro w4 h4 t4; have S4 := hide (HPUT.out w4 h4 t4); have O5 := hide S4.out.o5; have HN5 := hide (one_int w4 num.length 3); have HS5 : Hid (w.heap.size ≤ (w4.alloc (.cells #[.int .i64 (num.length : Nat)] 3)).heap.size) := S4.out.s5; clear h4 t4)
          | (at_builtin; refine wpList_append_view rfl (.tmp 34) (.tmp 36) 22 rfl w.heap.size 3 i3 (.int .i64 0) 1 8 Tryz.underlying22 hi3 hz30 hz31 hz32 rfl (by decide) _ fst.length (nCells fst) rfl O5.out ⟨w4.heap.size, 0, none⟩ 1 1 [.int .i64 (num.length : Nat)] rfl rfl HN5.out (by simp [Value.oneCell']) (by decide) (by unfold maxLen; omega) (by omega) HS5.out ?_; intro v6 w6 g1 g2; obtain ⟨⟨⟨u6, q1⟩, q2⟩, S6⟩ := S4.out.app hi g1 g2; have S6 := hide S6; clear g1 g2))
        go_roundg (N - (num.length + 1) + 1)
        case measure => have := HG.out; omega
        case rel => exact ⟨num ++ [fst.length], fst ++ [num.length], by simp, S6, by simp⟩
    · have hi' : ¬ (num.length : Int) < (N : Int) := by omega
      go_wp2
      go_ret2
      refine ⟨⟨_, _, rfl, num, fst, ?_⟩, S.out.bel⟩
      have e : num.length = N := by omega
      have h1 := S.out.o1
      rw [e, Nat.sub_self, List.replicate_zero, List.append_nil] at h1
      exact ⟨h1, S.out.o2, S.out.ap, e, by have := S.out.nf; rw [e] at this; exact this⟩
end Go.Proofs.YtdgoilkgplnhfabGreat
