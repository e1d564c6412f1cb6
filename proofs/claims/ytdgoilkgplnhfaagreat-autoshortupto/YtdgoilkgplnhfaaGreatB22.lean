/-
  Sets of places as states: what they tell of texts. Of no program: no condition but those named.
-/
import Derived.Test.YtdgoilkgplnhfaaGreatB14
import Derived.Test.YtdgoilkgplnhfaaGreatB19
import Derived.Test.YtdgoilkgplnhfaaGreatB21
import Derived.Test.YtdgoilkgplnhfaaGreatB10
import Derived.Laws.CopyOwn
import Derived.Test.YtdgoilkgplnhfaaGreatB18
import Derived.DeepKeys4
namespace Go.Proofs.YtdgoilkgplnhfaaGreat

theorem afF_congr {L : List Pc} {f g : Nat → Bool} {b b' : Int} : ∀ (n : Nat), (∀ j, j < n → f j = g j) → (∀ j, j < n → tkB (L.getD j zPc) b = tkB (L.getD j zPc) b') → afF L f b n = afF L g b' n
  | 0, _, _ => rfl
  | n + 1, h, k => by
    have ih := afF_congr n (fun j hj => h j (by omega)) (fun j hj => k j (by omega))
    have e1 := h n (by omega)
    have e2 := k n (by omega)
    unfold zPc at e2
    unfold afF
    rw [ih, e1, e2]
/-- A set of places as a list. -/
def plL (f : Nat → Bool) : List Bool := (List.range 65).map f
def plF (B : List Bool) : Nat → Bool := fun i => B.getD i false
theorem plL_len (f : Nat → Bool) : (plL f).length = 65 := by simp [plL]
theorem plF_plL (f : Nat → Bool) {i : Nat} (h : i < 65) : plF (plL f) i = f i := by
  unfold plF plL
  simp [List.getD_eq_getElem?_getD, h]
theorem plL_plF {B : List Bool} (h : B.length = 65) : plL (plF B) = B := by
  apply List.ext_getElem
  · rw [plL_len, h]
  · intro i h1 h2
    unfold plL plF
    simp [List.getD_eq_getElem?_getD, h2]
theorem mk_plF (f : Nat → Bool) : mk (plF (plL f)) = mk f := by
  unfold mk
  congr 1
theorem mk_inj {A B : List Bool} (ha : A.length = 65) (hb : B.length = 65) (h : mk (plF A) = mk (plF B)) : A = B := by
  apply List.ext_getElem
  · omega
  · intro i h1 h2
    have e : (mk (plF A))[i]? = (mk (plF B))[i]? := by rw [h]
    rw [mk_get _ i (by omega), mk_get _ i (by omega)] at e
    have e2 : plF A i = plF B i := by injection e with e; injection e
    unfold plF at e2
    simpa [List.getD_eq_getElem?_getD, h1, h2] using e2
/-- Where a set leads by a byte. -/
def plS (L : List Pc) (B : List Bool) (b : Nat) : List Bool := plL (stF L (plF B) (UInt8.ofNat b))
theorem stF_congr {L : List Pc} {f g : Nat → Bool} {b b' : UInt8} (h : ∀ j, j < L.length → f j = g j) (k : ∀ j, j < L.length → tkB (L.getD j zPc) ((b.toNat : Nat) : Int) = tkB (L.getD j zPc) ((b'.toNat : Nat) : Int)) : stF L f b = stF L g b' := by
  unfold stF
  rw [afF_congr L.length h k]
theorem plS_plL {L : List Pc} (hl : L.length ≤ 64) (f : Nat → Bool) (b : Nat) : plS L (plL f) b = plL (stF L f (UInt8.ofNat b)) := by
  unfold plS
  rw [stF_congr (fun j hj => plF_plL f (by omega)) (fun _ _ => rfl)]
/-- Of a piece alone and one byte: does it take it? -/
theorem one_takes (p : Pc) (b : UInt8) : mtF [p] [b] 1 = tkB p ((b.toNat : Nat) : Int) := by
  have e : ([p] : List Pc).getD 0 ⟨0, 0, false, []⟩ = p := rfl
  simp only [mtF, stF, List.foldl_cons, List.foldl_nil, List.length_cons, List.length_nil, Nat.zero_add, clF, afF, e]
  cases hm : manyK p.kind <;> cases ht : tkB p ((b.toNat : Nat) : Int) <;> simp [upd]
/-- What is come to by a text. -/
theorem mtF_pl {L : List Pc} (hl : L.length ≤ 64) : ∀ (t : By) (f : Nat → Bool), (ntL t).foldl (plS L) (plL f) = plL (t.foldl (stF L) f)
  | [], f => rfl
  | c :: t, f => by
    show (ntL t).foldl (plS L) (plS L (plL f) c.toNat) = _
    rw [plS_plL hl]
    have : UInt8.ofNat c.toNat = c := by simp
    rw [this]
    exact mtF_pl hl t _
end Go.Proofs.YtdgoilkgplnhfaaGreat
/-
  many, closed, beginning of sets of places by their contracts. Condition: there are at most 64 pieces.
-/
namespace Go.Proofs.YtdgoilkgplnhfaaGreat
open Go.RowKit Go.Lib

theorem Tryz.info80 : (Tryz.prog.info? 80).map (fun i => (i.zero, i.size)) = some (some (.agg (mk fun _ => false)), 65) := by kernel_rfl
theorem many6_any (k b : Int) (no : Bool) (so : Option Addr) (n c : Nat) (w : World) : Calls Tryz.prog 86 #[.agg #[.int .i64 k, .int .i64 b, .bool no, .slice so n c]] w fun e w' => e = .returned (.bool (manyK k)) ∧ Below w.heap.size w w' := by
  by_cases h4 : k = 4
  · have HE : Hid (manyK k = true) := by simp [Hid, manyK, h4]
    go_enter Tryz.func86, Tryz.ntmps86
    go_wp2
    go_ret
    exact ⟨by rw [HE.out]; rfl, al (Below.refl _ _) _⟩
  · by_cases h5 : k = 5
    · have HE : Hid (manyK k = true) := by simp [Hid, manyK, h5]
      go_enter Tryz.func86, Tryz.ntmps86
      go_wp2
      go_ret
      exact ⟨by rw [HE.out]; rfl, al (Below.refl _ _) _⟩
    · go_enter Tryz.func86, Tryz.ntmps86
      go_wp2
      go_ret
      refine ⟨?_, al (Below.refl _ _) _⟩
      show Ending.returned (Value.bool (k == 4 || k == 5)) = _
      simp [manyK, h4, h5]
set_option maxRecDepth 100000 in
set_option maxHeartbeats 4000000 in
theorem closed6_any (ao : Option Addr) (cap : Nat) (D : List PD) (f : Nat → Bool) (w : World) (hl : D.length ≤ 64) (hat : PcAt w ao D) :
    Calls Tryz.prog 85 #[.slice ao D.length cap, .agg (mk f)] w fun e w' => e = .returned (.agg (mk (clF (D.map PD.p) f D.length))) ∧ Below w.heap.size w w' := by
  obtain ⟨hzv, hsz⟩ := zero_of_info Tryz.info80
  have hs := mk_size f
  have HAT := hide hat
  have HXS : Hid (Below w.heap.size w ((w.alloc (.cells (mk f) 80)).alloc (.cells (mk fun _ => false) 80))) := al (al (Below.refl _ _) _) _
  have B0 : Hid (((w.alloc (.cells (mk f) 80)).alloc (.cells (mk fun _ => false) 80)).heap[w.heap.size]? = some (.cells (mk f) 80 (0, 0))) := ((al (Below.refl _ _) (.cells (mk fun _ => false) 80) : Below (w.alloc (.cells (mk f) 80)).heap.size (w.alloc (.cells (mk f) 80)) _).block _ (by simp)).trans (heap_alloc_new _ _)
  have B1 : Hid (((w.alloc (.cells (mk f) 80)).alloc (.cells (mk fun _ => false) 80)).heap[w.heap.size + 1]? = some (.cells (mk fun _ => false) 80 (0, 0))) := by
    have := heap_alloc_new (w.alloc (.cells (mk f) 80)) (.cells (mk fun _ => false) 80)
    rwa [show (w.alloc (.cells (mk f) 80)).heap.size = w.heap.size + 1 by simp] at this
  have HZS := hide (mk_size fun _ => false)
  obtain ⟨a, ha⟩ : ∃ a, Hid (a = mk f) := ⟨_, rfl⟩
  obtain ⟨z, hz⟩ : ∃ z, Hid (z = mk fun _ => false) := ⟨_, rfl⟩
  rw [← ha.out] at hs HXS B0 B1 ⊢
  rw [← hz.out] at hzv HXS B0 B1 HZS
  clear hat
  go_enter Tryz.func85, Tryz.ntmps85
  go_wp2
  go_loopw [9] (fun x wr => ∃ k : Nat, k ≤ D.length ∧ x = .int .i64 k ∧ Hid (wr.heap[w.heap.size]? = some (.cells (mk (clF (D.map PD.p) f k)) 80 (0, 0))) ∧ Hid (wr.heap[w.heap.size + 1]? = some (.cells z 80 (0, 0))) ∧ Hid (Below w.heap.size w wr)) (fun x _ => D.length - (RowKit.intOf x).toNat)
  case atStart => exact ⟨0, Nat.zero_le _, rfl, by have h0 : a = mk (clF (D.map PD.p) f 0) := ha.out; rw [← h0]; exact B0, B1, HXS⟩
  case round =>
    obtain ⟨k, hk, rfl, BA, BZ, X⟩ := hrel
    rename World => wr
    by_cases hlt : k < D.length
    · have hlt' : (k : Int) < (D.length : Int) := by omega
      have h65 : (k : Int) < 65 := by omega
      have h66 : (k : Int) + 1 < 65 := by omega
      rcases HAT.out with h | ⟨b, off, rfl, hb, hc⟩
      · rw [h] at hlt; simp at hlt
      obtain ⟨p0, p1, p2, p3, _⟩ := hc k hlt
      have hbw : b < wr.heap.size := Nat.lt_of_lt_of_le hb X.out.size
      have r0 := (X.out.cell (p := ⟨b, off + k * 4, none⟩) hb).trans p0
      have r1 := (X.out.cell (p := ⟨b, off + k * 4 + 1, none⟩) hb).trans p1
      have r2 := (X.out.cell (p := ⟨b, off + k * 4 + 2, none⟩) hb).trans p2
      have r3 := (X.out.cell (p := ⟨b, off + k * 4 + 3, none⟩) hb).trans p3
      have HY := hide (fun h1 h2 => clF_yes (D := D) (f := f) (k := k) hlt h1 h2)
      have HN := hide (fun h1 => clF_no (D := D) (f := f) (k := k) hlt h1)
      have HMN := hide (fun w => many6_any D[k].p.kind D[k].p.b D[k].p.no D[k].so D[k].p.set.length D[k].sc w)
      generalize D[k].p.kind = kd at *
      generalize D[k].p.b = kb at *
      generalize D[k].p.no = kn at *
      generalize D[k].p.set.length = kl at *
      generalize D[k].so = ks at *
      generalize D[k].sc = kc at *
      have X4 := hide (al (Below.refl wr.heap.size wr) (.cells #[.int .i64 kd, .int .i64 kb, .bool kn, .slice ks kl kc] 96))
      have BA4 := hide ((X4.out.block _ (lt_of_block BA.out)).trans BA.out)
      have c0 : (wr.alloc (.cells #[.int .i64 kd, .int .i64 kb, .bool kn, .slice ks kl kc] 96)).cell? ⟨w.heap.size, k, none⟩ = some (.bool (clF (D.map PD.p) f k k)) := by rw [cell_of_row _ _ _ _ _ _ BA4.out]; exact mk_get _ _ (by omega)
      clear hc p0 p1 p2 p3
      cases hf : clF (D.map PD.p) f k k with
      | false =>
        have HE := hide (HN.out (by rw [hf, Bool.false_and]))
        rw [hf] at c0
        go_wp2
        go_roundw
        case rel => exact ⟨k + 1, by omega, by go_num, by unfold Hid; rw [HE.out]; exact BA4.out, (X4.out.block _ (lt_of_block BZ.out)).trans BZ.out, bt X.out X4.out (Nat.le_refl _)⟩
        case measure => simp [RowKit.intOf]; omega
      | true =>
        rw [hf] at c0
        cases hm : manyK kd with
        | false =>
          have HE := hide (HN.out (by rw [hm, Bool.and_false]))
          rw [hm] at HMN
          go_wp2_with (go_at_call 86; refine (HMN.out _).mono ?_; rintro e w5 ⟨rfl, x5⟩; have X5 := hide (bt X4.out x5 (Nat.le_refl _)); clear x5)
          go_roundw
          case rel => exact ⟨k + 1, by omega, by go_num, by unfold Hid; rw [HE.out]; exact (X5.out.block _ (lt_of_block BA.out)).trans BA.out, (X5.out.block _ (lt_of_block BZ.out)).trans BZ.out, bt X.out X5.out (Nat.le_refl _)⟩
          case measure => simp [RowKit.intOf]; omega
        | true =>
          have HE := hide (HY.out hf hm)
          rw [hm] at HMN
          go_wp2_with (go_at_call 86; refine (HMN.out _).mono ?_; rintro e w5 ⟨rfl, x5⟩; have X5 := hide (bt X4.out x5 (Nat.le_refl _)); have BA5 := hide ((X5.out.block _ (lt_of_block BA.out)).trans BA.out); have d1 : w5.cell? ⟨w.heap.size, k + 1, none⟩ = some (.bool (clF (D.map PD.p) f k (k + 1))) := (by rw [cell_of_row _ _ _ _ _ _ BA5.out]; exact mk_get _ _ (by omega)); have g1 := frozen_of_row _ _ (k + 1) _ _ BA5.out; clear x5)
          go_roundw
          case rel =>
            have hk6 : Kept (fun i => i = w.heap.size) w5 (w5.setCell ⟨w.heap.size, k + 1, none⟩ (.bool true)) := Kept.setCell (F := fun i => i = w.heap.size) (p := ⟨w.heap.size, k + 1, none⟩) (Kept.refl _ _) rfl _
            have B5Z := (X5.out.block _ (lt_of_block BZ.out)).trans BZ.out
            refine ⟨k + 1, by omega, by go_num, ?_, (hk6.block _ (lt_of_block B5Z) (by omega)).trans B5Z, ?_⟩
            · unfold Hid
              rw [HE.out, ← mk_set]
              exact block_setCell BA5.out (k + 1) _
            · exact (bt X.out X5.out (Nat.le_refl _)).trans (hk6.below (Nat.le_trans X.out.size X5.out.size) (fun i hi => by omega))
          case measure => simp [RowKit.intOf]; omega
    · have hnl : ¬ (k : Int) < (D.length : Int) := by omega
      have hkl : k = D.length := by omega
      subst hkl
      have HI : Hid ((Tryz.prog.info? 80).map (·.size) = some (mk (clF (D.map PD.p) f D.length)).size) := by unfold Hid; rw [hsz, mk_size]
      have HZ2 : Hid (z.size = (mk (clF (D.map PD.p) f D.length)).size) := by unfold Hid; rw [HZS.out, mk_size]
      have HAL := hide (mk_all (clF (D.map PD.p) f D.length))
      have HBN := hide (setRow_heap wr (w.heap.size + 1) z (mk (clF (D.map PD.p) f D.length)) 80 (0, 0) BZ.out)
      have HXN := hide (below_setRow X.out (Nat.le_succ _) (mk (clF (D.map PD.p) f D.length)))
      clear hzv hsz hs
      obtain ⟨m, hm⟩ : ∃ m, Hid (m = mk (clF (D.map PD.p) f D.length)) := ⟨_, rfl⟩
      rw [← hm.out] at HI HZ2 HAL HBN HXN BA
      go_wp2_with (first
        | (refine wpList_load_row rfl 80 (.tmp 3) rfl w.heap.size rfl 80 m (0, 0) _ BA.out Tryz.underlying80 rfl HI.out ?_)
        | (refine wpList_store_row rfl 80 (.tmp 4) (.tmp 27) rfl (w.heap.size + 1) m rfl rfl 80 z BZ.out HI.out HZ2.out HAL.out ?_))
      refine bodyPost_ret (v := .agg m) (results_cell_row rfl _ _ (w.heap.size + 1) 80 m (0, 0) _ rfl HBN.out Tryz.underlying80 rfl HI.out) rfl ?_
      exact ⟨by rw [hm.out], HXN.out⟩


end Go.Proofs.YtdgoilkgplnhfaaGreat
/-
  Keys that are structs of one array: they are read as keys, and tell just their elements. Of the program its types alone: no condition.
-/
namespace Go.Proofs.YtdgoilkgplnhfaaGreat
open Go.RowKit Go.Lib Go.Maps

theorem mapM_some {α β : Type} (f : α → Option β) (g : α → β) : ∀ l : List α, (∀ x ∈ l, f x = some (g x)) → l.mapM f = some (l.map g)
  | [], _ => rfl
  | x :: l, h => by
    rw [List.mapM_cons, h x List.mem_cons_self, mapM_some f g l (fun y hy => h y (List.mem_cons_of_mem _ hy))]
    rfl
theorem size_types : Tryz.prog.types.size = 253 := by kernel_rfl
theorem cells169 : Tryz.prog.cellsOf 169 = 256 ∧ Tryz.prog.cellsOf 167 = 256 ∧ Tryz.prog.cellsOf 5 = 1 := ⟨by kernel_rfl, by kernel_rfl, by kernel_rfl⟩
theorem ktype169 : Tryz.prog.keyType 169 = true := by kernel_rfl
theorem u8_key (b : Nat) (hb : b < 256) (d : Nat) : Tryz.prog.keyLits (d + 1) 5 [.int .u8 (b : Int)] = some [.int .u8 (b : Int)] := by
  unfold Program.keyLits
  simp only [Tryz.underlying5]
  rw [if_pos (by simp [Lit.wf, IntKind.min, IntKind.max, IntKind.signed, IntKind.bits]; omega)]
theorem keyOf_leads (B : List Nat) (hl : B.length = 256) (hv : ∀ x ∈ B, x < 256) : ∃ l, keyOf Tryz.prog 169 (.agg (B.map fun (b : Nat) => Value.int .u8 (b : Int)).toArray) = some l := by
  obtain ⟨c1, c2, c3⟩ := cells169
  have hlits : ∃ ls, Tryz.prog.keyLits (Tryz.prog.types.size + 1) 169 (B.map fun (b : Nat) => Value.int .u8 (b : Int)) = some ls := by
    rw [size_types]
    unfold Program.keyLits
    simp only [Tryz.underlying169]
    have hlen : (B.map fun (b : Nat) => Value.int .u8 (b : Int)).length = 256 := by rw [List.length_map, hl]
    rw [if_pos ⟨by rw [hlen, c1], by first | (simp; done) | kernel_rfl⟩]
    have h167 : ∃ ls, Tryz.prog.keyLits 253 167 (B.map fun (b : Nat) => Value.int .u8 (b : Int)) = some ls := by
      unfold Program.keyLits
      simp only [Tryz.underlying167]
      rw [if_pos (by rw [hlen, c2]), mapM_some _ (fun i => [Lit.int .u8 ((gN B i : Nat) : Int)]) (List.range 256) (fun i hi => ?_)]
      · exact ⟨_, rfl⟩
      · have hi' : i < B.length := by rw [hl]; exact List.mem_range.1 hi
        have e : ((B.map fun (b : Nat) => Value.int .u8 (b : Int)).drop (i * Tryz.prog.cellsOf 5)).take (Tryz.prog.cellsOf 5) = [.int .u8 ((gN B i : Nat) : Int)] := by
          rw [c3, Nat.mul_one, List.drop_eq_getElem_cons (by rw [List.length_map]; exact hi'), gN_lt hi']
          simp
        rw [e]
        exact u8_key _ (by rw [gN_lt hi']; exact hv _ (List.getElem_mem hi')) 251
    obtain ⟨ls, hls⟩ := h167
    have e : ((B.map fun (b : Nat) => Value.int .u8 (b : Int)).drop 0).take (Tryz.prog.cellsOf 167) = B.map fun (b : Nat) => Value.int .u8 (b : Int) := by
      rw [List.drop_zero, c2, List.take_of_length_le (by rw [hlen]; exact Nat.le_refl _)]
    simp only [List.mapM_cons, List.mapM_nil, e, hls]
    exact ⟨_, rfl⟩
  obtain ⟨ls, hls⟩ := hlits
  unfold keyOf
  simp only [Tryz.underlying169]
  rw [if_pos (by
    rw [ktype169]
    simp [Value.formed, Tryz.underlying169, c1, hl])]
  have e : (Value.agg (B.map fun (b : Nat) => Value.int .u8 (b : Int)).toArray).cells.toList = B.map fun (b : Nat) => Value.int .u8 (b : Int) := by simp [Value.cells]
  rw [e, hls]
  exact ⟨_, rfl⟩
theorem keyed169 : Keyed Tryz.prog 169 := Keyed.of_law (deep_law_laid (m := 254) (by kernel_rfl) (by decide) (by rw [size_types]; decide) (by kernel_rfl) (by simp [Tryz.underlying169]))
end Go.Proofs.YtdgoilkgplnhfaaGreat
/-
  Keys that are structs of one array of bools: they are read as keys, and tell just their elements. Of the program its types alone: no condition.
-/
namespace Go.Proofs.YtdgoilkgplnhfaaGreat
open Go.RowKit Go.Lib Go.Maps

theorem cells73 : Tryz.prog.cellsOf 73 = 64 ∧ Tryz.prog.cellsOf 71 = 64 ∧ Tryz.prog.cellsOf 4 = 1 := ⟨by kernel_rfl, by kernel_rfl, by kernel_rfl⟩
theorem ktype73 : Tryz.prog.keyType 73 = true := by kernel_rfl
theorem bool_key (b : Bool) (d : Nat) : Tryz.prog.keyLits (d + 1) 4 [.bool b] = some [.bool b] := by
  unfold Program.keyLits
  simp only [Tryz.underlying4]
theorem keyOf_taking (B : List Bool) (hl : B.length = 64) : ∃ l, keyOf Tryz.prog 73 (.agg (B.map fun (b : Bool) => Value.bool b).toArray) = some l := by
  obtain ⟨c1, c2, c3⟩ := cells73
  have hlits : ∃ ls, Tryz.prog.keyLits (Tryz.prog.types.size + 1) 73 (B.map fun (b : Bool) => Value.bool b) = some ls := by
    rw [size_types]
    unfold Program.keyLits
    simp only [Tryz.underlying73]
    have hlen : (B.map fun (b : Bool) => Value.bool b).length = 64 := by rw [List.length_map, hl]
    rw [if_pos ⟨by rw [hlen, c1], by first | (simp; done) | kernel_rfl⟩]
    have h71 : ∃ ls, Tryz.prog.keyLits 253 71 (B.map fun (b : Bool) => Value.bool b) = some ls := by
      unfold Program.keyLits
      simp only [Tryz.underlying71]
      rw [if_pos (by rw [hlen, c2]), mapM_some _ (fun i => [Lit.bool (B.getD i false)]) (List.range 64) (fun i hi => ?_)]
      · exact ⟨_, rfl⟩
      · have hi' : i < B.length := by rw [hl]; exact List.mem_range.1 hi
        have e : ((B.map fun (b : Bool) => Value.bool b).drop (i * Tryz.prog.cellsOf 4)).take (Tryz.prog.cellsOf 4) = [.bool (B.getD i false)] := by
          rw [c3, Nat.mul_one, List.drop_eq_getElem_cons (by rw [List.length_map]; exact hi')]
          simp [List.getD_eq_getElem?_getD, hi']
        rw [e]
        exact bool_key _ 251
    obtain ⟨ls, hls⟩ := h71
    have e : ((B.map fun (b : Bool) => Value.bool b).drop 0).take (Tryz.prog.cellsOf 71) = B.map fun (b : Bool) => Value.bool b := by
      rw [List.drop_zero, c2, List.take_of_length_le (by rw [hlen]; exact Nat.le_refl _)]
    simp only [List.mapM_cons, List.mapM_nil, e, hls]
    exact ⟨_, rfl⟩
  obtain ⟨ls, hls⟩ := hlits
  unfold keyOf
  simp only [Tryz.underlying73]
  rw [if_pos (by
    rw [ktype73]
    simp [Value.formed, Tryz.underlying73, c1, hl])]
  have e : (Value.agg (B.map fun (b : Bool) => Value.bool b).toArray).cells.toList = B.map fun (b : Bool) => Value.bool b := by simp [Value.cells]
  rw [e, hls]
  exact ⟨_, rfl⟩
theorem keyed73 : Keyed Tryz.prog 73 := Keyed.of_law (deep_law_laid (m := 254) (by kernel_rfl) (by decide) (by rw [size_types]; decide) (by kernel_rfl) (by simp [Tryz.underlying73]))
end Go.Proofs.YtdgoilkgplnhfaaGreat
