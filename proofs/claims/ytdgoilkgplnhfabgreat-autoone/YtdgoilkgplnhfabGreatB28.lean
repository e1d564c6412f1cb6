/-
  takings by its contract: of each byte, which pieces take it. Condition: the pieces are right.
-/
import Derived.Test.YtdgoilkgplnhfabGreatB27
import Derived.Shelf.SlSortCmp.Whole1
import Derived.Test.YtdgoilkgplnhfabGreatB14
namespace Go.Proofs.YtdgoilkgplnhfabGreat
open Go.RowKit Go.Lib
def mkb (N : Nat) (F : Nat → Bool) : Array Value := ((List.range N).map fun q => Value.bool (F q)).toArray
theorem mkb_size (N : Nat) (F : Nat → Bool) : (mkb N F).size = N := by unfold mkb; rw [List.size_toArray, List.length_map, List.length_range]
theorem mkb_get (N : Nat) (F : Nat → Bool) (q : Nat) (h : q < N) : (mkb N F)[q]? = some (.bool (F q)) := by
  unfold mkb
  rw [List.getElem?_toArray, List.getElem?_map, List.getElem?_range h]
  rfl
theorem mkb_ext (N : Nat) (F : Nat → Bool) (A : Array Value) (hs : A.size = N) (h : ∀ j, j < N → A[j]? = some (.bool (F j))) : A = mkb N F := by
  apply Array.ext
  · rw [mkb_size, hs]
  · intro j h1 h2
    have e3 := h j (by rw [← hs]; exact h1)
    have e4 := mkb_get N F j (by rw [← hs]; exact h1)
    rw [Array.getElem?_eq_getElem h1] at e3
    rw [Array.getElem?_eq_getElem h2] at e4
    injection e3 with e3
    injection e4 with e4
    rw [e3, e4]
def updb (F : Nat → Bool) (q : Nat) (b : Bool) : Nat → Bool := fun j => if j = q then b else F j
theorem mkb_set (N : Nat) (F : Nat → Bool) (q : Nat) (b : Bool) : (mkb N F).set! q (.bool b) = mkb N (updb F q b) := by
  refine mkb_ext N _ _ (by simp [mkb_size]) (fun j hj => ?_)
  rw [Array.set!_eq_setIfInBounds, Array.getElem?_setIfInBounds, mkb_size]
  unfold updb
  by_cases e : q = j
  · subst e; simp [hj]
  · rw [if_neg e, if_neg (fun h => e h.symm), mkb_get N F j hj]
theorem made_mkb (N : Nat) : madeCells (Value.agg (Array.replicate 64 (Value.bool false))).cells N = mkb N fun _ => false := by
  refine mkb_ext N _ _ (by simp [madeCells]) (fun j hj => ?_)
  have : j % 64 < 64 := Nat.mod_lt _ (by decide)
  simp [madeCells, Value.cells, this, hj]
def tq (L : List Pc) (b i q : Nat) : Bool := (decide (q / 64 < b) || (decide (q / 64 = b) && decide (q % 64 < i))) && (decide (q % 64 < L.length) && tkB (L.getD (q % 64) zPc) ((q / 64 : Nat) : Int))
theorem tq_zero (L : List Pc) : tq L 0 0 = fun _ => false := by funext q; simp [tq]
theorem tq_next (L : List Pc) (b i : Nat) (hi : i < L.length) (hl : L.length ≤ 64) : updb (tq L b i) (b * 64 + i) (tkB (L.getD i zPc) ((b : Nat) : Int)) = tq L b (i + 1) := by
  funext q
  unfold updb
  by_cases e : q = b * 64 + i
  · subst e
    have e1 : (b * 64 + i) / 64 = b := by omega
    have e2 : (b * 64 + i) % 64 = i := by omega
    rw [if_pos rfl]
    unfold tq
    rw [e1, e2]
    simp [hi]
  · rw [if_neg e]
    unfold tq
    congr 2
    by_cases h : q / 64 = b
    · have : q % 64 ≠ i := fun h2 => e (by omega)
      simp only [h, decide_true, Bool.true_and]
      congr 1
      simp
      omega
    · simp [h]
theorem tq_row (L : List Pc) (b : Nat) : tq L b L.length = tq L (b + 1) 0 := by
  funext q
  unfold tq
  by_cases h : q % 64 < L.length
  · simp only [h, decide_true, Bool.and_true, Bool.true_and, Nat.not_lt_zero, decide_false, Bool.and_false, Bool.or_false]
    congr 1
    by_cases h1 : q / 64 < b
    · simp [h1, Nat.lt_succ_of_lt h1]
    · by_cases h2 : q / 64 = b
      · simp [h2]
      · have : ¬ q / 64 < b + 1 := by omega
        simp [h1, h2, this]
  · simp [h]
theorem Tryz.info73b : (Tryz.prog.info? 58).map (fun i => (i.zero, i.size, i.bytes)) = some (some (.agg (Array.replicate 64 (Value.bool false))), 64, 64) := by kernel_rfl
theorem make67 (V : World) : (Instr.makeSlice 52 (.int .i64 256) (.int .i64 256)).run Tryz.prog V = .ok (.slice (some ⟨V.heap.size, 0, none⟩) 256 256) (V.alloc (.cells (mkb 16384 fun _ => false) 58)) := by
  obtain ⟨i, h0, h1, h2, h3⟩ := info_parts Tryz.info73b
  have := run_make V 52 58 i _ (P := Tryz.prog) Tryz.underlying52 h0 h1 .i64 .i64 256 256 (by decide) (by decide) (by rw [h3]; decide) (by decide)
  rw [this, h2]
  rw [show Int.toNat 256 * 64 = 16384 from rfl, made_mkb]
  rfl
theorem Rt.one {L : List Pc} (h : Rt L) {p : Pc} (hp : p ∈ L) : Rt [p] := ⟨by simp, fun q hq => by rw [List.mem_singleton.1 hq]; exact h.2.1 p hp, fun i hi => by simp at hi⟩
theorem pcAt_one (W : World) (p : PD) (h : SpAt (W.alloc (.cells #[.int .i64 p.p.kind, .int .i64 p.p.b, .bool p.p.no, .slice p.so p.p.set.length p.sc] 47)) p.so p.p.set) : PcAt (W.alloc (.cells #[.int .i64 p.p.kind, .int .i64 p.p.b, .bool p.p.no, .slice p.so p.p.set.length p.sc] 47)) (some ⟨W.heap.size, 0, none⟩) [p] := by
  have B := heap_alloc_new W (.cells #[.int .i64 p.p.kind, .int .i64 p.p.b, .bool p.p.no, .slice p.so p.p.set.length p.sc] 47)
  refine .inr ⟨_, 0, rfl, lt_of_block B, fun i hi => ?_⟩
  obtain rfl : i = 0 := by simp at hi; omega
  exact ⟨by rw [cell_of_row _ _ _ _ _ _ B]; rfl, by rw [cell_of_row _ _ _ _ _ _ B]; rfl, by rw [cell_of_row _ _ _ _ _ _ B]; rfl, by rw [cell_of_row _ _ _ _ _ _ B]; rfl, h⟩
set_option maxRecDepth 100000 in
set_option maxHeartbeats 8000000 in
theorem takings_any (ao : Option Addr) (cap : Nat) (D : List PD) (w : World) (hR : Rt (D.map PD.p)) (hLen : ∀ d ∈ D, d.p.set.length ≤ 140737488351232) (hat : PcAt w ao D) :
    Calls Tryz.prog 19 #[.slice ao D.length cap] w fun e w' => e = .returned (.slice (some ⟨w.heap.size, 0, none⟩) 256 256) ∧ w'.heap[w.heap.size]? = some (.cells (mkb 16384 (tq (D.map PD.p) 256 0)) 58 (0, 0)) ∧ Below w.heap.size w w' := by
  have hl : D.length ≤ 64 := by have := hR.1; rwa [List.length_map] at this
  have HAT := hide hat
  have HR := hide hR
  have HLEN := hide hLen
  have hmk := make67 w
  have B0 : Hid ((w.alloc (.cells (mkb 16384 fun _ => false) 58)).heap[w.heap.size]? = some (.cells (mkb 16384 (tq (D.map PD.p) 0 0)) 58 (0, 0))) := by unfold Hid; rw [tq_zero]; exact heap_alloc_new _ _
  have X0 : Hid (Below w.heap.size w (w.alloc (.cells (mkb 16384 fun _ => false) 58))) := al (Below.refl _ _) _
  clear hat hR hLen
  generalize w.alloc (.cells (mkb 16384 fun _ => false) 58) = w1 at *
  go_enter Tryz.func19, Tryz.ntmps19
  go_wp2
  go_loopg [10] 257 (fun g x wr => ∃ b : Nat, x = .int .i64 (b : Nat) ∧ Hid (wr.heap[w.heap.size]? = some (.cells (mkb 16384 (tq (D.map PD.p) b 0)) 58 (0, 0))) ∧ Hid (Below w.heap.size w wr) ∧ b ≤ 256 ∧ 256 - b < g)
  case atStart => exact ⟨0, rfl, B0, X0, by omega, by omega⟩
  case round =>
    obtain ⟨b, rfl, BL, X, hb, hg⟩ := hrel
    have HG := hide hg
    clear hg
    by_cases hlt : b < 256
    · have hlt' : (b : Int) < 256 := by omega
      have wb : IntKind.u8.wrap ((b : Nat) : Int) = ((b : Nat) : Int) := by simp [IntKind.wrap, IntKind.bits, IntKind.signed]; omega
      have B1 := heap_alloc_new wr (.cells #[.int .u8 (b : Int)] 5)
      have X1 : Below wr.heap.size wr (wr.alloc (.cells #[.int .u8 (b : Int)] 5)) := al (Below.refl _ _) _
      have hcv : (convert 74 9 (.slice (some ⟨wr.heap.size, 0, none⟩) 1 1)).run Tryz.prog (wr.alloc (.cells #[.int .u8 (b : Int)] 5)) = .ok (.string ⟨#[UInt8.ofNat b]⟩) (wr.alloc (.cells #[.int .u8 (b : Int)] 5)) := by
        have := run_convert_bytes_arg (P := Tryz.prog) (wr.alloc (.cells #[.int .u8 (b : Int)] 5)) 74 5 Tryz.underlying74 Tryz.underlying5 wr.heap.size 0 1 1 [(b : Int)] (by simp) (fun i hi => by
          obtain rfl : i = 0 := by omega
          rw [cell_of_row _ _ _ _ _ _ B1]; rfl) 9 Tryz.underlying9
        rw [this]
        rfl
      have BL1 : Hid ((wr.alloc (.cells #[.int .u8 (b : Int)] 5)).heap[w.heap.size]? = some (.cells (mkb 16384 (tq (D.map PD.p) b 0)) 58 (0, 0))) := (X1.block _ (lt_of_block BL.out)).trans BL.out
      have XX1 := hide (bt X.out X1 (Nat.le_refl _))
      clear B1 X1 B0 X0 hmk
      go_upto_region 6 with fail
      generalize wr.alloc (.cells #[.int .u8 (b : Int)] 5) = w2 at *
      go_wp2
      go_loopg [19] (D.length + 1) (fun g x wr => ∃ k : Nat, x = .int .i64 (k : Nat) ∧ Hid (wr.heap[w.heap.size]? = some (.cells (mkb 16384 (tq (D.map PD.p) b k)) 58 (0, 0))) ∧ Hid (Below w.heap.size w wr) ∧ k ≤ D.length ∧ D.length - k < g)
      case atStart => exact ⟨0, rfl, BL1, XX1, by omega, by omega⟩
      case round =>
        obtain ⟨k, rfl, BL, X, hk, hg2⟩ := hrel
        have HG2 := hide hg2
        clear hg2 BL1 XX1 hcv
        by_cases hkl : k < D.length
        · have hkl' : (k : Int) < (D.length : Int) := by omega
          have h64 : (k : Int) < 64 := by omega
          rcases HAT.out with h | ⟨pb, off, rfl, hpb, hc⟩
          · rw [h] at hkl; simp at hkl
          obtain ⟨p0, p1, p2, p3, p4⟩ := hc k hkl
          have r0 := (X.out.cell (p := ⟨pb, off + k * 4, none⟩) hpb).trans p0
          have r1 := (X.out.cell (p := ⟨pb, off + k * 4 + 1, none⟩) hpb).trans p1
          have r2 := (X.out.cell (p := ⟨pb, off + k * 4 + 2, none⟩) hpb).trans p2
          have r3 := (X.out.cell (p := ⟨pb, off + k * 4 + 3, none⟩) hpb).trans p3
          have P4 := hide (p4.below X.out)
          have HR1 := hide (HR.out.one (List.mem_map_of_mem (f := PD.p) (List.getElem_mem hkl)))
          have HPL := hide (HLEN.out _ (List.getElem_mem hkl))
          have HTN : Hid (updb (tq (D.map PD.p) b k) (b * 64 + k) (tkB D[k].p ((b : Nat) : Int)) = tq (D.map PD.p) b (k + 1)) := by
            have := tq_next (D.map PD.p) b k (by rw [List.length_map]; exact hkl) (by rw [List.length_map]; exact hl)
            rw [getD_mapz D k hkl] at this
            exact this
          generalize D[k] = d at *
          clear hc p0 p1 p2 p3 p4
          have HM : Hid (∀ V : World, Below (wr.alloc (.cells #[.int .i64 d.p.kind, .int .i64 d.p.b, .bool d.p.no, .slice d.so d.p.set.length d.sc] 47)).heap.size (wr.alloc (.cells #[.int .i64 d.p.kind, .int .i64 d.p.b, .bool d.p.no, .slice d.so d.p.set.length d.sc] 47)) V → Calls Tryz.prog 18 #[.slice (some ⟨wr.heap.size, 0, none⟩) 1 1, .string ⟨#[UInt8.ofNat b]⟩] V fun e w' => e = .returned (.tuple #[.bool (tkB d.p ((b : Nat) : Int)), .int .i64 0]) ∧ Below wr.heap.size wr w') := fun V x => by
            have x2 : Below wr.heap.size wr (wr.alloc (.cells #[.int .i64 d.p.kind, .int .i64 d.p.b, .bool d.p.no, .slice d.so d.p.set.length d.sc] 47)) := al (Below.refl _ _) _
            have x3 := bt x2 x (Nat.le_refl _)
            have := match_any (some ⟨wr.heap.size, 0, none⟩) 1 [d] [UInt8.ofNat b] V (by simp) (fun y hy => by rw [List.mem_singleton.1 hy]; exact HPL.out) ((pcAt_one wr d (P4.out.below x2)).below x)
            refine this.mono ?_
            rintro e w' ⟨h, x4⟩
            refine ⟨?_, bt x3 x4 (Nat.le_refl _)⟩
            rcases h with ⟨_, rfl⟩ | ⟨h, _⟩
            · have e1 : mtF ([d].map PD.p) [UInt8.ofNat b] ([d].map PD.p).length = tkB d.p (((UInt8.ofNat b).toNat : Nat) : Int) := one_takes d.p (UInt8.ofNat b)
              have e2 : (UInt8.ofNat b).toNat = b := by simp; omega
              rw [e1, e2]
            · exact absurd HR1.out h
          generalize tkB d.p ((b : Nat) : Int) = v at *
          have hq : b * 64 + k < 16384 := by omega
          have lw := lt_of_block BL.out
          have HCW : Hid (∀ V, Below wr.heap.size wr V → V.cell? ⟨w.heap.size, b * 64 + k, none⟩ = some (.bool (tq (D.map PD.p) b k (b * 64 + k))) ∧ V.frozen? ⟨w.heap.size, b * 64 + k, none⟩ = false) := fun V x => by
            have b1 := (x.block _ lw).trans BL.out
            exact ⟨by rw [cell_of_row _ _ _ _ _ _ b1]; exact mkb_get _ _ _ hq, frozen_of_row _ _ _ _ _ b1⟩
          go_wp2
          go_region_with (go_at_call 18; refine (HM.out _ ?_).mono ?_; exact (Below.refl _ _).drew; rintro e w4 ⟨rfl, x4⟩; obtain ⟨y1, y2⟩ := HCW.out w4 x4; have X4 := hide x4; clear x4)
          have b4 := (X4.out.block _ lw).trans BL.out
          have hk6 : Kept (fun i => i = w.heap.size) w4 (w4.setCell ⟨w.heap.size, b * 64 + k, none⟩ (.bool v)) := Kept.setCell (F := fun i => i = w.heap.size) (p := ⟨w.heap.size, b * 64 + k, none⟩) (Kept.refl _ _) rfl _
          have BN : Hid ((w4.setCell ⟨w.heap.size, b * 64 + k, none⟩ (.bool v)).heap[w.heap.size]? = some (.cells (mkb 16384 (tq (D.map PD.p) b (k + 1))) 58 (0, 0))) := by
            unfold Hid
            rw [← HTN.out, ← mkb_set]
            exact block_setCell b4 _ _
          have XN := hide ((bt X.out X4.out (Nat.le_refl _)).trans (hk6.below (Nat.le_trans X.out.size X4.out.size) (fun i hi => by omega)))
          clear b4 hk6
          go_wp2
          go_roundg (D.length - (k + 1) + 1)
          case measure => have := HG2.out; omega
          case rel => exact ⟨k + 1, by first | rfl | go_num | (congr 1; omega), BN, XN, by omega, by omega⟩
        · have hkl' : ¬ (k : Int) < (D.length : Int) := by omega
          obtain rfl : k = D.length := by omega
          have BN : Hid (wr.heap[w.heap.size]? = some (.cells (mkb 16384 (tq (D.map PD.p) (b + 1) 0)) 58 (0, 0))) := by
            unfold Hid
            rw [← tq_row, List.length_map]
            exact BL.out
          go_wp2
          go_roundg (256 - (b + 1) + 1)
          case measure => have := HG.out; omega
          case rel => exact ⟨b + 1, by first | rfl | go_num | (congr 1; omega), BN, X, by omega, by omega⟩
    · have hlt' : ¬ (b : Int) < 256 := by omega
      obtain rfl : b = 256 := by omega
      go_wp2
      go_ret
      exact ⟨rfl, BL.out, X.out⟩
end Go.Proofs.YtdgoilkgplnhfabGreat
namespace Go.Proofs.YtdgoilkgplnhfabGreat
open Go.RowKit Go.Lib Go.Maps
theorem row64 {V : World} {tg : Nat} {F : Nat → Bool} (hB : V.heap[tg]? = some (.cells (mkb 16384 F) 58 (0, 0))) {b : Nat} (hb : b < 256) : ∀ j v, (mk64 fun i => F (b * 64 + i))[j]? = some v → V.cell? ((⟨tg, b * 64, none⟩ : Addr).add j) = some v := fun j v hv => by
  have hj : j < 64 := by
    apply Nat.lt_of_not_le
    intro h
    rw [Array.getElem?_eq_none (by rw [mk64_size]; exact h)] at hv
    cases hv
  rw [mk64_get _ _ hj] at hv
  rw [addr_add, cell_of_row _ _ _ _ _ _ hB, mkb_get _ _ _ (by omega)]
  exact hv
theorem exec_load_at {P : Program} {o : Oper} {a : Act} {V : World} (ty : TypeId) (x : Operand) (ho : o.op = .load ty x) (p : Addr) (hx : a.eval x = .pointer (some p)) (v : Value) (hl : (loadVar ty p).run P V = .ok v V) : (execOp a.eval o).run P V = .ok (.value v) V := by
  unfold execOp
  simp only [ho, hx, Instr.loadAt, Instr.sureAddr, Sem.run_bind, Sem.run_pure, Result.andThen_ok, hl]
set_option maxRecDepth 100000 in
set_option maxHeartbeats 4000000 in
theorem of1_any (b pg tg : Nat) (F : Nat → Bool) (w : World) (hb : b < 256) (hp : w.cell? ⟨pg, 0, none⟩ = some (.slice (some ⟨tg, 0, none⟩) 256 256)) (hpl : pg < w.heap.size) (hB : w.heap[tg]? = some (.cells (mkb 16384 F) 58 (0, 0))) :
    Calls Tryz.prog 21 #[.int .i64 (b : Nat), .pointer (some ⟨pg, 0, none⟩)] w fun e w' => e = .returned (.agg (mk64 fun i => F (b * 64 + i))) ∧ Below w.heap.size w w' := by
  obtain ⟨hzv, hsz⟩ := zero_of_info Tryz.info73
  obtain ⟨z, hz⟩ : ∃ z, z = (Array.replicate 64 (Value.bool false)) := ⟨_, rfl⟩
  have HZS : Hid (z.size = 64) := by unfold Hid; rw [hz]; simp
  rw [← hz] at hzv
  clear hz
  have hlt : (b : Int) < 256 := by omega
  have X1 : Below w.heap.size w (w.alloc (.cells z 58)) := al (Below.refl _ _) _
  have B1 := hide (heap_alloc_new w (.cells z 58))
  have c0 := (X1.cell (p := ⟨pg, 0, none⟩) hpl).trans hp
  have BB := hide ((X1.block _ (lt_of_block hB)).trans hB)
  have HC := hide (row64 BB.out hb)
  obtain ⟨m, hm⟩ : ∃ m, Hid (m = mk64 fun i => F (b * 64 + i)) := ⟨_, rfl⟩
  rw [← hm.out] at HC
  have HI : Hid ((Tryz.prog.info? 58).map (·.size) = some m.size) := by unfold Hid; rw [hsz, hm.out, mk64_size]
  have HZ2 : Hid (z.size = m.size) := by unfold Hid; rw [HZS.out, hm.out, mk64_size]
  have HAL : Hid (m.all (·.oneCell') = true) := by unfold Hid; rw [hm.out]; exact mk64_all _
  have X1 := hide X1
  clear hsz hp hB hpl
  go_enter Tryz.func21, Tryz.ntmps21
  go_wp2_with (first
    | (refine wpList_load_at rfl 58 (.tmp 6) rfl ⟨tg, b * 64, none⟩ (by first | rfl | (simp; done)) m _ HC.out Tryz.underlying58 rfl HI.out ?_)
    | (refine wpList_store_row rfl 58 (.tmp 3) (.tmp 7) rfl w.heap.size m rfl rfl 58 z B1.out HI.out HZ2.out HAL.out ?_))
  have HBN := hide (setRow_heap _ w.heap.size z m 58 (0, 0) B1.out)
  have HXN := hide (below_setRow X1.out (Nat.le_refl w.heap.size) m)
  refine bodyPost_ret (v := .agg m) (results_cell_row rfl _ _ w.heap.size 58 m (0, 0) _ rfl HBN.out Tryz.underlying58 rfl HI.out) rfl ?_
  exact ⟨by rw [hm.out], HXN.out⟩
set_option maxRecDepth 100000 in
set_option maxHeartbeats 8000000 in
theorem of2_any (ao : Option Addr) (cap fc c q p0 p1 p2 tg : Nat) (fa : Option Addr) (fst : List Nat) (D : List PD) (f F : Nat → Bool) (w : World) (hl : D.length ≤ 64) (hq : fst[c]? = some q) (hqb : q < 256) (hat : PcAt w ao D) (hfa : NAt w fa fst)
    (h0 : w.cell? ⟨p0, 0, none⟩ = some (.slice ao D.length cap)) (h1 : w.cell? ⟨p1, 0, none⟩ = some (.slice (some ⟨tg, 0, none⟩) 256 256)) (h2 : w.cell? ⟨p2, 0, none⟩ = some (.slice fa fst.length fc)) (l0 : p0 < w.heap.size) (l1 : p1 < w.heap.size) (l2 : p2 < w.heap.size) (hB : w.heap[tg]? = some (.cells (mkb 16384 F) 58 (0, 0))) :
    Calls Tryz.prog 24 #[.agg (mk f), .int .i64 (c : Nat), .pointer (some ⟨p0, 0, none⟩), .pointer (some ⟨p1, 0, none⟩), .pointer (some ⟨p2, 0, none⟩)] w fun e w' => e = .returned (.agg (mk (clF (D.map PD.p) (agF (D.map PD.p) f (fun i => F (q * 64 + i)) D.length) D.length))) ∧ Below w.heap.size w w' := by
  obtain ⟨hzv, hsz⟩ := zero_of_info Tryz.info80
  have HZS := hide (mk_size fun _ => false)
  have hs := mk_size f
  obtain ⟨z, hz⟩ : ∃ z, Hid (z = mk fun _ => false) := ⟨_, rfl⟩
  rw [← hz.out] at hzv HZS
  obtain ⟨a, ha⟩ : ∃ a, Hid (a = mk f) := ⟨_, rfl⟩
  rw [← ha.out] at hs ⊢
  obtain ⟨hc, hcq⟩ := List.getElem?_eq_some_iff.1 hq
  obtain ⟨fb, fo, rfl, hfb, cf⟩ := hfa.get hc
  rw [hcq] at cf
  have hc' : (c : Int) < (fst.length : Int) := by omega
  have hq' : (q : Int) < 256 := by omega
  have e1 : (w.alloc (.cells a 65)).heap.size = w.heap.size + 1 := by simp
  have x1 : Below w.heap.size w (w.alloc (.cells a 65)) := al (Below.refl _ _) _
  have b1 := heap_alloc_new w (.cells a 65)
  have x2 : Below (w.alloc (.cells a 65)).heap.size (w.alloc (.cells a 65)) ((w.alloc (.cells a 65)).alloc (.cells z 65)) := al (Below.refl _ _) _
  have b2 := heap_alloc_new (w.alloc (.cells a 65)) (.cells z 65)
  have X2 := bt x1 x2 (Nat.le_refl _)
  have BA := (x2.block _ (by omega)).trans b1
  rw [e1] at b2
  obtain ⟨w2, hw2⟩ : ∃ w2, w2 = (w.alloc (.cells a 65)).alloc (.cells z 65) := ⟨_, rfl⟩
  rw [← hw2] at X2 BA b2
  clear x1 x2 b1 e1
  have HBZ := hide b2
  have lz := lt_of_block b2
  have lA := lt_of_block BA
  have lt := lt_of_block hB
  obtain ⟨m1, hm1⟩ : ∃ m, Hid (m = mk64 fun i => F (q * 64 + i)) := ⟨_, rfl⟩
  obtain ⟨m, hm⟩ : ∃ m, Hid (m = mk (clF (D.map PD.p) (agF (D.map PD.p) f (fun i => F (q * 64 + i)) D.length) D.length)) := ⟨_, rfl⟩
  have HSK : Hid (∀ V V', Below w2.heap.size w2 V → Kept (fun i => i = w.heap.size + 1) V V' → V'.cell? ⟨p0, 0, none⟩ = some (.slice ao D.length cap) ∧ V'.cell? ⟨p1, 0, none⟩ = some (.slice (some ⟨tg, 0, none⟩) 256 256) ∧ V'.cell? ⟨p2, 0, none⟩ = some (.slice (some ⟨fb, fo, none⟩) fst.length fc) ∧ V'.cell? ⟨fb, fo + c, none⟩ = some (.int .i64 (q : Int)) ∧ (loadVar 65 ⟨w.heap.size, 0, none⟩).run Tryz.prog V' = .ok (.agg a) V' ∧ (loadVar 58 ⟨tg, q * 64, none⟩).run Tryz.prog V' = .ok (.agg m1) V') := fun V V' x k => by
    have y := bt X2 x (Nat.le_refl _)
    have kc : ∀ {p : Addr}, p.block < w.heap.size → V'.cell? p = w.cell? p := fun {p} hp => by
      have hp2 : p.block < V.heap.size := Nat.lt_of_lt_of_le hp y.size
      exact (World.cell?_of_block (k.block _ hp2 (by omega))).trans (y.cell hp)
    have kb : ∀ g, g < w2.heap.size → ¬ g = w.heap.size + 1 → V'.heap[g]? = w2.heap[g]? := fun g h1 h2 => (k.block _ (Nat.lt_of_lt_of_le h1 x.size) h2).trans (x.block _ h1)
    refine ⟨(kc (p := ⟨p0, 0, none⟩) l0).trans h0, (kc (p := ⟨p1, 0, none⟩) l1).trans h1, (kc (p := ⟨p2, 0, none⟩) l2).trans h2, (kc (p := ⟨fb, fo + c, none⟩) hfb).trans cf, ?_, ?_⟩
    · exact run_loadVar_row V' w.heap.size 65 65 a (0, 0) _ ((kb _ lA (by omega)).trans BA) Tryz.underlying65 rfl (by rw [hsz, hs])
    · rw [hm1.out]
      have e2 : w2.heap[tg]? = w.heap[tg]? := X2.block _ lt
      exact run_loadVar_at V' ⟨tg, q * 64, none⟩ 58 _ _ (row64 ((kb _ (Nat.lt_of_lt_of_le lt X2.size) (by omega)).trans (e2.trans hB)) hqb) Tryz.underlying58 rfl (by rw [(zero_of_info Tryz.info73).2, mk64_size])
  have HS : Hid (∀ V, Below w2.heap.size w2 V → V.cell? ⟨p0, 0, none⟩ = some (.slice ao D.length cap) ∧ V.cell? ⟨p1, 0, none⟩ = some (.slice (some ⟨tg, 0, none⟩) 256 256) ∧ V.cell? ⟨p2, 0, none⟩ = some (.slice (some ⟨fb, fo, none⟩) fst.length fc) ∧ V.cell? ⟨fb, fo + c, none⟩ = some (.int .i64 (q : Int)) ∧ (loadVar 65 ⟨w.heap.size, 0, none⟩).run Tryz.prog V = .ok (.agg a) V ∧ (loadVar 58 ⟨tg, q * 64, none⟩).run Tryz.prog V = .ok (.agg m1) V) := fun V x => HSK.out V V x (Kept.refl _ _)
  have HAF : Hid (∀ V, Below w2.heap.size w2 V → Calls Tryz.prog 25 #[.slice ao D.length cap, .agg a, .agg m1] V fun e w' => e = .returned (.agg m) ∧ Below V.heap.size V w') := fun V x => by
    rw [ha.out, hm1.out, hm.out]
    exact after6_any ao cap D f _ V hl (hat.below (bt X2 x (Nat.le_refl _)))
  have HI : Hid ((Tryz.prog.info? 65).map (·.size) = some m.size) := by unfold Hid; rw [hsz, hm.out, mk_size]
  have HZ2 : Hid (z.size = m.size) := by unfold Hid; rw [HZS.out, hm.out, mk_size]
  have HAL : Hid (m.all (·.oneCell') = true) := by unfold Hid; rw [hm.out]; exact mk_all _
  have X2 := hide X2
  obtain ⟨g0, g1, g2, g3, g4, g5⟩ := HS.out w2 (Below.refl _ _)
  clear hsz hs h0 h1 h2 l0 l1 l2 hB hat hfa hq hcq cf BA b2
  go_enter Tryz.func24, Tryz.ntmps24
  go_upto_region 1 with fail
  rw [← hw2]
  clear hw2
  refine wp_region_held (S := fun V => V.cell? ⟨p0, 0, none⟩ = some (.slice ao D.length cap) ∧ V.cell? ⟨p1, 0, none⟩ = some (.slice (some ⟨tg, 0, none⟩) 256 256) ∧ V.cell? ⟨p2, 0, none⟩ = some (.slice (some ⟨fb, fo, none⟩) fst.length fc) ∧ V.cell? ⟨fb, fo + c, none⟩ = some (.int .i64 (q : Int)) ∧ (loadVar 65 ⟨w.heap.size, 0, none⟩).run Tryz.prog V = .ok (.agg a) V ∧ (loadVar 58 ⟨tg, q * 64, none⟩).run Tryz.prog V = .ok (.agg m1) V) (by kernel_rfl) ?_
  change wpAnyH _ _ _ _ _ _ _ _ (World.drew _)
  have hS2 := HS.out w2.drew (Below.refl _ _).drew
  refine wpAnyH_take (i := 0) (v := .slice ao D.length cap) rfl (by kernel_rfl) (by kernel_rfl) (by kernel_rfl) (fun _ _ _ h => h) (Or.inl ⟨by rfl, fun V hV => by obtain ⟨g0, g1, g2, g3, _, _⟩ := hV; go_simp⟩) hS2 ?_
  refine wpAnyH_take (i := 1) (v := .agg a) rfl (by kernel_rfl) (by kernel_rfl) (by kernel_rfl) (fun _ _ _ h => h) (Or.inl ⟨by rfl, fun V hV => exec_load_at 65 (.tmp 5) rfl ⟨w.heap.size, 0, none⟩ rfl _ hV.2.2.2.2.1⟩) hS2 ?_
  refine wpAnyH_take (i := 2) (v := .slice (some ⟨tg, 0, none⟩) 256 256) rfl (by kernel_rfl) (by kernel_rfl) (by kernel_rfl) (fun _ _ _ h => h) (Or.inl ⟨by rfl, fun V hV => by obtain ⟨g0, g1, g2, g3, _, _⟩ := hV; go_simp⟩) hS2 ?_
  refine wpAnyH_take (i := 3) (v := .slice (some ⟨fb, fo, none⟩) fst.length fc) rfl (by kernel_rfl) (by kernel_rfl) (by kernel_rfl) (fun _ _ _ h => h) (Or.inl ⟨by rfl, fun V hV => by obtain ⟨g0, g1, g2, g3, _, _⟩ := hV; go_simp⟩) hS2 ?_
  refine wpAnyH_take (i := 4) (v := .int .i64 (c : Nat)) rfl (by kernel_rfl) (by kernel_rfl) (by kernel_rfl) (fun _ _ _ h => h) (Or.inl ⟨by rfl, fun V hV => by obtain ⟨g0, g1, g2, g3, _, _⟩ := hV; go_simp⟩) hS2 ?_
  refine wpAnyH_take (i := 5) (v := .pointer (some ⟨fb, fo + c, none⟩)) rfl (by kernel_rfl) (by kernel_rfl) (by kernel_rfl) (fun _ _ _ h => h) (Or.inl ⟨by rfl, fun V hV => by obtain ⟨g0, g1, g2, g3, _, _⟩ := hV; go_simp⟩) hS2 ?_
  refine wpAnyH_take (i := 6) (v := .int .i64 (q : Int)) rfl (by kernel_rfl) (by kernel_rfl) (by kernel_rfl) (fun _ _ _ h => h) (Or.inl ⟨by rfl, fun V hV => by obtain ⟨g0, g1, g2, g3, _, _⟩ := hV; go_simp⟩) hS2 ?_
  refine wpAnyH_take (i := 7) (v := .pointer (some ⟨tg, q * 64, none⟩)) rfl (by kernel_rfl) (by kernel_rfl) (by kernel_rfl) (fun _ _ _ h => h) (Or.inl ⟨by rfl, fun V hV => by obtain ⟨g0, g1, g2, g3, _, _⟩ := hV; go_simp⟩) hS2 ?_
  refine wpAnyH_take (i := 8) (v := .agg m1) rfl (by kernel_rfl) (by kernel_rfl) (by kernel_rfl) (fun _ _ _ h => h) (Or.inl ⟨by rfl, fun V hV => exec_load_at 58 (.tmp 15) rfl ⟨tg, q * 64, none⟩ rfl _ hV.2.2.2.2.2⟩) hS2 ?_
  refine wpAnyH_all (rs := [9]) (by kernel_rfl) (by simp) (fun i hi => ?_)
  obtain rfl : i = 9 := by simpa using hi
  refine wpOp_step rfl (fun K hK => ?_)
  go_simp
  refine (HAF.out _ (Below.refl _ _).drew).mono ?_
  rintro e w6 ⟨rfl, x6⟩
  have y6 : Below w2.heap.size w2 w6 := (Below.refl _ _).drew.trans x6
  have X6 := hide (bt X2.out y6 (Nat.le_refl _))
  have BR6 := hide ((y6.block _ lz).trans HBZ.out)
  refine hK _ _ ⟨HS.out _ y6, ?_⟩
  clear hK K hS2
  refine wpAnyH_all (rs := [10]) (by kernel_rfl) (by simp) (fun i hi => ?_)
  obtain rfl : i = 10 := by simpa using hi
  refine wpOp_step rfl (fun K hK => ?_)
  rw [if_pos (by rfl)]
  refine wp_store_row 65 (.tmp 7) (.tmp 17) rfl (w.heap.size + 1) m rfl rfl 65 z BR6.out HI.out HZ2.out HAL.out ?_
  have hk6 : Kept (fun i => i = w.heap.size + 1) w6 (w6.setRow (w.heap.size + 1) m) := ⟨rfl, rfl, rfl, by simp [World.setRow], fun i _ hi => by have hne : ¬ w.heap.size + 1 = i := fun h => hi h.symm; simp [World.setRow, Array.getElem?_modify, hne]⟩
  refine hK _ _ ⟨HSK.out _ _ y6 hk6, ?_⟩
  clear hK K
  refine wpAnyH_done (by kernel_rfl) ?_ _
  have HBN := hide (setRow_heap w6 (w.heap.size + 1) z m 65 (0, 0) BR6.out)
  have HXN := hide (below_setRow X6.out (Nat.le_succ w.heap.size) m)
  clear hk6
  go_wp2
  refine bodyPost_ret (v := .agg m) (results_cell_row rfl _ _ (w.heap.size + 1) 65 m (0, 0) _ rfl HBN.out Tryz.underlying65 rfl HI.out) rfl ?_
  exact ⟨by rw [hm.out], HXN.out⟩
end Go.Proofs.YtdgoilkgplnhfabGreat
namespace Go.Proofs
open Go.Shelf
theorem Tryz.sortN : Go.Proofs.SlLaysF.n6 Tryz.prog Tryz.sortI_ren := {
  mixed := by kernel_rfl
  f6 := ⟨Tryz.f75.name, by decide, Tryz.func75.trans (congrArg some (by kernel_rfl))⟩
  f14 := ⟨Tryz.f95.name, by decide, Tryz.func95.trans (congrArg some (by kernel_rfl))⟩
  f15 := Tryz.func96.trans (congrArg some (by kernel_rfl))
  f20 := ⟨Tryz.f101.name, by decide, Tryz.func101.trans (congrArg some (by kernel_rfl))⟩
  f21 := ⟨Tryz.f102.name, by decide, Tryz.func102.trans (congrArg some (by kernel_rfl))⟩
  f22 := ⟨Tryz.f103.name, by decide, Tryz.func103.trans (congrArg some (by kernel_rfl))⟩
  f23 := ⟨Tryz.f104.name, by decide, Tryz.func104.trans (congrArg some (by kernel_rfl))⟩
  f24 := ⟨Tryz.f105.name, by decide, Tryz.func105.trans (congrArg some (by kernel_rfl))⟩
  f25 := ⟨Tryz.f106.name, by decide, Tryz.func106.trans (congrArg some (by kernel_rfl))⟩
  f26 := ⟨Tryz.f107.name, by decide, Tryz.func107.trans (congrArg some (by kernel_rfl))⟩
  f27 := ⟨Tryz.f108.name, by decide, Tryz.func108.trans (congrArg some (by kernel_rfl))⟩
  f28 := Tryz.func109.trans (congrArg some (by kernel_rfl))
  f29 := Tryz.func110.trans (congrArg some (by kernel_rfl))
  f46 := ⟨Tryz.f119.name, by decide, Tryz.func119.trans (congrArg some (by kernel_rfl))⟩
  f47 := Tryz.func120.trans (congrArg some (by kernel_rfl))
  f48 := Tryz.func121.trans (congrArg some (by kernel_rfl))
  f49 := ⟨Tryz.f122.name, by decide, Tryz.func122.trans (congrArg some (by kernel_rfl))⟩
  f50 := ⟨Tryz.f123.name, by decide, Tryz.func123.trans (congrArg some (by kernel_rfl))⟩
  f57 := ⟨Tryz.f127.name, by decide, Tryz.func127.trans (congrArg some (by kernel_rfl))⟩
  t0 := Tryz.underlying0
  a0 := Tryz.isAgg0
  z0 := Tryz.sizeOf0
  v0 := Tryz.zeroValue0
  t3 := Tryz.underlying3
  a3 := Tryz.isAgg3
  z3 := Tryz.sizeOf3
  v3 := Tryz.zeroValue3
  t4 := Tryz.underlying4
  a4 := Tryz.isAgg4
  z4 := Tryz.sizeOf4
  v4 := Tryz.zeroValue4
  t5 := Tryz.underlying5
  a5 := Tryz.isAgg5
  z5 := Tryz.sizeOf5
  v5 := Tryz.zeroValue5
  t9 := Tryz.underlying9
  a9 := Tryz.isAgg9
  z9 := Tryz.sizeOf9
  v9 := Tryz.zeroValue9
  t22 := Tryz.underlying22
  a22 := Tryz.isAgg22
  z22 := Tryz.sizeOf22
  v22 := Tryz.zeroValue22
  a24 := Tryz.isAgg3
  z24 := Tryz.sizeOf3
  t25 := Tryz.underlying30
  a25 := Tryz.isAgg30
  z25 := Tryz.sizeOf30
  v25 := Tryz.zeroValue30
  t39 := Tryz.underlying146
  a39 := Tryz.isAgg146
  z39 := Tryz.sizeOf146
  v39 := Tryz.zeroValue146
  t45 := Tryz.underlying151
  a45 := Tryz.isAgg151
  z45 := Tryz.sizeOf151
  v45 := Tryz.zeroValue151
  t46 := Tryz.underlying152
  a46 := Tryz.isAgg152
  z46 := Tryz.sizeOf152
  v46 := Tryz.zeroValue152
  t50 := Tryz.underlying83
  a50 := Tryz.isAgg83
  z50 := Tryz.sizeOf83
  v50 := Tryz.zeroValue83
  t53 := Tryz.underlying158
  a53 := Tryz.isAgg158
  z53 := Tryz.sizeOf158
  v53 := Tryz.zeroValue158
  t55 := Tryz.underlying160
  a55 := Tryz.isAgg160
  z55 := Tryz.sizeOf160
  v55 := Tryz.zeroValue160
  t66 := Tryz.underlying166
  a66 := Tryz.isAgg166
  z66 := Tryz.sizeOf166
  v66 := Tryz.zeroValue166
  t70 := Tryz.underlying170
  a70 := Tryz.isAgg170
  z70 := Tryz.sizeOf170
  v70 := Tryz.zeroValue170
  t76 := Tryz.underlying174
  a76 := Tryz.isAgg174
  z76 := Tryz.sizeOf174
  v76 := Tryz.zeroValue174
  t77 := Tryz.underlying175
  a77 := Tryz.isAgg175
  z77 := Tryz.sizeOf175
  v77 := Tryz.zeroValue175 }
end Go.Proofs
namespace Go.Proofs.YtdgoilkgplnhfabGreat
open Go.RowKit Go.Lib Go.Sort
def orZ (a c : Int) : Int := if a = 0 then c else a
set_option maxRecDepth 100000 in
theorem or_any (b cap : Nat) (a c : Int) (w : World) (h0 : w.cell? ⟨b, 0, none⟩ = some (.int .i64 a)) (h1 : w.cell? ⟨b, 1, none⟩ = some (.int .i64 c)) :
    Calls Tryz.prog 77 #[.slice (some ⟨b, 0, none⟩) 2 cap] w fun e w' => e = .returned (.int .i64 (orZ a c)) ∧ w' = w := by
  have HC : Hid (∀ i, i < 2 → w.cell? ⟨b, i, none⟩ = some (.int .i64 (if i = 0 then a else c))) := fun i hi => by
    match i, hi with
    | 0, _ => simpa using h0
    | 1, _ => simpa using h1
  clear h0 h1
  go_enter Tryz.func77, Tryz.ntmps77
  go_wp2
  go_loopg [8] 3 (fun g x wr => ∃ i : Nat, x = .int .i64 (i : Nat) ∧ i ≤ 2 ∧ Hid ((1 ≤ i → a = 0) ∧ (2 ≤ i → c = 0)) ∧ wr = w ∧ 2 - i < g)
  case atStart => exact ⟨0, rfl, by omega, ⟨fun h => by omega, fun h => by omega⟩, rfl, by omega⟩
  case round =>
    obtain ⟨i, rfl, hi2, HZ, rfl, hg⟩ := hrel
    have HG := hide hg
    clear hg
    by_cases hi : i < 2
    · have hi' : (i : Int) < 2 := by omega
      have ci := HC.out i hi
      obtain ⟨z, hz⟩ : ∃ z, z = (if i = 0 then a else c) := ⟨_, rfl⟩
      rw [← hz] at ci
      have HZZ := hide hz
      clear hz
      by_cases hzz : z = 0
      · have hzz' : ¬ ¬ z = 0 := fun h => h hzz
        go_wp2
        go_roundg (2 - (i + 1) + 1)
        case measure => have := HG.out; omega
        case rel =>
          refine ⟨i + 1, by first | rfl | go_num | (congr 1; omega), by omega, ⟨fun _ => ?_, fun h => ?_⟩, rfl, by omega⟩
          · by_cases e : i = 0
            · have := HZZ.out; rw [if_pos e] at this; rw [← this]; exact hzz
            · exact HZ.out.1 (by omega)
          · have := HZZ.out; rw [if_neg (by omega)] at this; rw [← this]; exact hzz
      · go_wp2
        go_ret
        refine ⟨?_, rfl⟩
        have := HZZ.out
        unfold orZ
        by_cases e : i = 0
        · rw [if_pos e] at this; subst this; rw [if_neg hzz]; rfl
        · rw [if_neg e] at this; subst this; rw [if_pos (HZ.out.1 (by omega))]; rfl
    · have hi' : ¬ (i : Int) < 2 := by omega
      go_wp2
      go_ret
      have h1 := HZ.out.1 (by omega)
      have h2 := HZ.out.2 (by omega)
      refine ⟨?_, rfl⟩
      unfold orZ
      rw [if_pos h1, h2]; rfl
theorem cmp129 (a b : Int) (W : World) : Calls Tryz.prog 78 #[.int .i64 a, .int .i64 b] W fun e w' => e = .returned (.int .i64 (Lib.compareInt a b)) ∧ w' = W := AnyG.cmp_Compare_int Tryz.cmpInt a b W
def cfO (OU : List Nat) (x y : Nat) : Int := orZ (Lib.compareInt (gN OU x : Int) (gN OU y : Int)) (Lib.compareInt (x : Int) (y : Int))
set_option maxRecDepth 100000 in
set_option maxHeartbeats 2000000 in
theorem cmp136_any (oa : Option Addr) (oc cb x y : Nat) (OU : List Nat) (w : World) (hx : x < OU.length) (hy : y < OU.length) (hcb : w.cell? ⟨cb, 0, none⟩ = some (.slice oa OU.length oc)) (hcl : cb < w.heap.size) (hat : NAt w oa OU) :
    Calls Tryz.prog 76 #[.int .i64 (x : Nat), .int .i64 (y : Nat), .pointer (some ⟨cb, 0, none⟩)] w fun e w' => e = .returned (.int .i64 (cfO OU x y)) ∧ ∃ q os', w' = grow (w.drewN q) os' := by
  obtain ⟨ob, off, rfl, hob, c1⟩ := hat.get hx
  obtain ⟨_, _, e0, _, c2⟩ := hat.get hy
  simp only [Option.some.injEq, Addr.mk.injEq, and_true] at e0
  obtain ⟨rfl, rfl⟩ := e0
  rw [← gN_lt hx] at c1
  rw [← gN_lt hy] at c2
  have x' : (x : Int) < (OU.length : Int) := by omega
  have y' : (y : Int) < (OU.length : Int) := by omega
  have H129 := hide cmp129
  unfold cfO
  clear hat
  generalize gN OU x = a at *
  generalize gN OU y = b at *
  have B1 := heap_alloc_new w (.cells #[.int .i64 (Lib.compareInt (a : Int) (b : Int)), .int .i64 (Lib.compareInt (x : Int) (y : Int))] 3)
  have HOR := hide (or_any w.heap.size 2 (Lib.compareInt (a : Int) (b : Int)) (Lib.compareInt (x : Int) (y : Int)) (w.alloc (.cells #[.int .i64 (Lib.compareInt (a : Int) (b : Int)), .int .i64 (Lib.compareInt (x : Int) (y : Int))] 3)).drew (by show (w.alloc (.cells #[.int .i64 (Lib.compareInt (a : Int) (b : Int)), .int .i64 (Lib.compareInt (x : Int) (y : Int))] 3)).cell? _ = _; rw [cell_of_row _ _ _ _ _ _ B1]; rfl) (by show (w.alloc (.cells #[.int .i64 (Lib.compareInt (a : Int) (b : Int)), .int .i64 (Lib.compareInt (x : Int) (y : Int))] 3)).cell? _ = _; rw [cell_of_row _ _ _ _ _ _ B1]; rfl))
  have n1 : ¬ cb = w.heap.size := by omega
  have n2 : ¬ ob = w.heap.size := by omega
  clear B1
  go_enter Tryz.func76, Tryz.ntmps76
  go_wp2
  go_region_held3 (fun w' => w'.cell? ⟨cb, 0, none⟩ = some (.slice (some ⟨ob, off, none⟩) OU.length oc) ∧ w'.cell? ⟨ob, off + x, none⟩ = some (.int .i64 (a : Int)) ∧ w'.cell? ⟨ob, off + y, none⟩ = some (.int .i64 (b : Int))) (first | assumption | exact ⟨hcb, c1, c2⟩ | (simp [go_sem, *]; done))
    ((first
      | (go_at_call 78; refine (H129.out _ _ _).mono ?_; rintro e w' ⟨rfl, rfl⟩)
      | (go_at_call 77; refine HOR.out.mono ?_; rintro e w' ⟨rfl, rfl⟩)))
  all_goals
    go_wp2
    go_ret
    exact ⟨rfl, 1, #[.cells #[.int .i64 (Lib.compareInt (a : Int) (b : Int)), .int .i64 (Lib.compareInt (x : Int) (y : Int))] 3 (0, 0)], by rw [alloc_eq_grow]; rfl⟩
end Go.Proofs.YtdgoilkgplnhfabGreat
