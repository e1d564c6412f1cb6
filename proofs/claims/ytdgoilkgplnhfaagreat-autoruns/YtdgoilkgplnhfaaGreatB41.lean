/-
  takings by its contract: of each byte, which pieces take it. Condition: the pieces are right.
-/
import Derived.Test.YtdgoilkgplnhfaaGreatB40
import Derived.Deep.RegionWith
import Derived.Lib.ConvBytes
import Derived.Deep.WholeRow
import Derived.Laws.CopyOwn
import Derived.Great.BuildSlice
import Derived.Deep.RegionHeld3
import Derived.Test.YtdgoilkgplnhfaaGreatB30
namespace Go.Proofs.YtdgoilkgplnhfaaGreat
open Go.RowKit Go.Lib

/-- A row of bools. -/
def mkb (N : Nat) (F : Nat → Bool) : Array Value := ((List.range N).map fun q => Value.bool (F q)).toArray
theorem mkb_size (N : Nat) (F : Nat → Bool) : (mkb N F).size = N := by unfold mkb; rw [List.size_toArray, List.length_map, List.length_range]
theorem mkb_get (N : Nat) (F : Nat → Bool) (q : Nat) (h : q < N) : (mkb N F)[q]? = some (.bool (F q)) := by
  unfold mkb
  rw [List.getElem?_toArray, List.getElem?_map, List.getElem?_range h]
  rfl
theorem mkb_ext (N : Nat) (F : Nat → Bool) (A : Array Value) (hs : A.size = N) (h : ∀ j, j < N → A[j]? = some (.bool (F j))) : A = mkb N F := by
  apply Array.ext
  · rw [mkb_size, hs]
  · intro j h1 h2
    have e3 := h j (by rw [← hs]; exact h1)
    have e4 := mkb_get N F j (by rw [← hs]; exact h1)
    rw [Array.getElem?_eq_getElem h1] at e3
    rw [Array.getElem?_eq_getElem h2] at e4
    injection e3 with e3
    injection e4 with e4
    rw [e3, e4]
def updb (F : Nat → Bool) (q : Nat) (b : Bool) : Nat → Bool := fun j => if j = q then b else F j
theorem mkb_set (N : Nat) (F : Nat → Bool) (q : Nat) (b : Bool) : (mkb N F).set! q (.bool b) = mkb N (updb F q b) := by
  refine mkb_ext N _ _ (by simp [mkb_size]) (fun j hj => ?_)
  rw [Array.set!_eq_setIfInBounds, Array.getElem?_setIfInBounds, mkb_size]
  unfold updb
  by_cases e : q = j
  · subst e; simp [hj]
  · rw [if_neg e, if_neg (fun h => e h.symm), mkb_get N F j hj]
theorem made_mkb (N : Nat) : madeCells (Value.agg (Array.replicate 64 (Value.bool false))).cells N = mkb N fun _ => false := by
  refine mkb_ext N _ _ (by simp [madeCells]) (fun j hj => ?_)
  have : j % 64 < 64 := Nat.mod_lt _ (by decide)
  simp [madeCells, Value.cells, this, hj]
/-- What has been told: b rows, and i places of the next one. -/
def tq (L : List Pc) (b i q : Nat) : Bool := (decide (q / 64 < b) || (decide (q / 64 = b) && decide (q % 64 < i))) && (decide (q % 64 < L.length) && tkB (L.getD (q % 64) zPc) ((q / 64 : Nat) : Int))
theorem tq_zero (L : List Pc) : tq L 0 0 = fun _ => false := by funext q; simp [tq]
theorem tq_next (L : List Pc) (b i : Nat) (hi : i < L.length) (hl : L.length ≤ 64) : updb (tq L b i) (b * 64 + i) (tkB (L.getD i zPc) ((b : Nat) : Int)) = tq L b (i + 1) := by
  funext q
  unfold updb
  by_cases e : q = b * 64 + i
  · subst e
    have e1 : (b * 64 + i) / 64 = b := by omega
    have e2 : (b * 64 + i) % 64 = i := by omega
    rw [if_pos rfl]
    unfold tq
    rw [e1, e2]
    simp [hi]
  · rw [if_neg e]
    unfold tq
    congr 2
    by_cases h : q / 64 = b
    · have : q % 64 ≠ i := fun h2 => e (by omega)
      simp only [h, decide_true, Bool.true_and]
      congr 1
      simp
      omega
    · simp [h]
theorem tq_row (L : List Pc) (b : Nat) : tq L b L.length = tq L (b + 1) 0 := by
  funext q
  unfold tq
  by_cases h : q % 64 < L.length
  · simp only [h, decide_true, Bool.and_true, Bool.true_and, Nat.not_lt_zero, decide_false, Bool.and_false, Bool.or_false]
    congr 1
    by_cases h1 : q / 64 < b
    · simp [h1, Nat.lt_succ_of_lt h1]
    · by_cases h2 : q / 64 = b
      · simp [h2]
      · have : ¬ q / 64 < b + 1 := by omega
        simp [h1, h2, this]
  · simp [h]
theorem Tryz.info73b : (Tryz.prog.info? 73).map (fun i => (i.zero, i.size, i.bytes)) = some (some (.agg (Array.replicate 64 (Value.bool false))), 64, 64) := by kernel_rfl
theorem make67 (V : World) : (Instr.makeSlice 67 (.int .i64 256) (.int .i64 256)).run Tryz.prog V = .ok (.slice (some ⟨V.heap.size, 0, none⟩) 256 256) (V.alloc (.cells (mkb 16384 fun _ => false) 73)) := by
  obtain ⟨i, h0, h1, h2, h3⟩ := info_parts Tryz.info73b
  have := run_make V 67 73 i _ (P := Tryz.prog) Tryz.underlying67 h0 h1 .i64 .i64 256 256 (by decide) (by decide) (by rw [h3]; decide) (by decide)
  rw [this, h2]
  rw [show Int.toNat 256 * 64 = 16384 from rfl, made_mkb]
  rfl
theorem Rt.one {L : List Pc} (h : Rt L) {p : Pc} (hp : p ∈ L) : Rt [p] := ⟨by simp, fun q hq => by rw [List.mem_singleton.1 hq]; exact h.2.1 p hp, fun i hi => by simp at hi⟩
theorem pcAt_one (W : World) (p : PD) (h : SpAt (W.alloc (.cells #[.int .i64 p.p.kind, .int .i64 p.p.b, .bool p.p.no, .slice p.so p.p.set.length p.sc] 96)) p.so p.p.set) : PcAt (W.alloc (.cells #[.int .i64 p.p.kind, .int .i64 p.p.b, .bool p.p.no, .slice p.so p.p.set.length p.sc] 96)) (some ⟨W.heap.size, 0, none⟩) [p] := by
  have B := heap_alloc_new W (.cells #[.int .i64 p.p.kind, .int .i64 p.p.b, .bool p.p.no, .slice p.so p.p.set.length p.sc] 96)
  refine .inr ⟨_, 0, rfl, lt_of_block B, fun i hi => ?_⟩
  obtain rfl : i = 0 := by simp at hi; omega
  exact ⟨by rw [cell_of_row _ _ _ _ _ _ B]; rfl, by rw [cell_of_row _ _ _ _ _ _ B]; rfl, by rw [cell_of_row _ _ _ _ _ _ B]; rfl, by rw [cell_of_row _ _ _ _ _ _ B]; rfl, h⟩
set_option maxRecDepth 100000 in
set_option maxHeartbeats 8000000 in
theorem takings_any (ao : Option Addr) (cap : Nat) (D : List PD) (w : World) (hR : Rt (D.map PD.p)) (hLen : ∀ d ∈ D, d.p.set.length ≤ 140737488351232) (hat : PcAt w ao D) :
    Calls Tryz.prog 41 #[.slice ao D.length cap] w fun e w' => e = .returned (.slice (some ⟨w.heap.size, 0, none⟩) 256 256) ∧ w'.heap[w.heap.size]? = some (.cells (mkb 16384 (tq (D.map PD.p) 256 0)) 73 (0, 0)) ∧ Below w.heap.size w w' := by
  have hl : D.length ≤ 64 := by have := hR.1; rwa [List.length_map] at this
  have HAT := hide hat
  have HR := hide hR
  have HLEN := hide hLen
  have hmk := make67 w
  have B0 : Hid ((w.alloc (.cells (mkb 16384 fun _ => false) 73)).heap[w.heap.size]? = some (.cells (mkb 16384 (tq (D.map PD.p) 0 0)) 73 (0, 0))) := by unfold Hid; rw [tq_zero]; exact heap_alloc_new _ _
  have X0 : Hid (Below w.heap.size w (w.alloc (.cells (mkb 16384 fun _ => false) 73))) := al (Below.refl _ _) _
  clear hat hR hLen
  generalize w.alloc (.cells (mkb 16384 fun _ => false) 73) = w1 at *
  go_enter Tryz.func41, Tryz.ntmps41
  go_wp2
  go_loopg [10] 257 (fun g x wr => ∃ b : Nat, x = .int .i64 (b : Nat) ∧ Hid (wr.heap[w.heap.size]? = some (.cells (mkb 16384 (tq (D.map PD.p) b 0)) 73 (0, 0))) ∧ Hid (Below w.heap.size w wr) ∧ b ≤ 256 ∧ 256 - b < g)
  case atStart => exact ⟨0, rfl, B0, X0, by omega, by omega⟩
  case round =>
    obtain ⟨b, rfl, BL, X, hb, hg⟩ := hrel
    have HG := hide hg
    clear hg
    by_cases hlt : b < 256
    · have hlt' : (b : Int) < 256 := by omega
      have wb : IntKind.u8.wrap ((b : Nat) : Int) = ((b : Nat) : Int) := by simp [IntKind.wrap, IntKind.bits, IntKind.signed]; omega
      have B1 := heap_alloc_new wr (.cells #[.int .u8 (b : Int)] 5)
      have X1 : Below wr.heap.size wr (wr.alloc (.cells #[.int .u8 (b : Int)] 5)) := al (Below.refl _ _) _
      have hcv : (convert 89 9 (.slice (some ⟨wr.heap.size, 0, none⟩) 1 1)).run Tryz.prog (wr.alloc (.cells #[.int .u8 (b : Int)] 5)) = .ok (.string ⟨#[UInt8.ofNat b]⟩) (wr.alloc (.cells #[.int .u8 (b : Int)] 5)) := by
        have := run_convert_bytes_arg (P := Tryz.prog) (wr.alloc (.cells #[.int .u8 (b : Int)] 5)) 89 5 Tryz.underlying89 Tryz.underlying5 wr.heap.size 0 1 1 [(b : Int)] (by simp) (fun i hi => by
          obtain rfl : i = 0 := by omega
          rw [cell_of_row _ _ _ _ _ _ B1]; rfl) 9 Tryz.underlying9
        rw [this]
        rfl
      have BL1 : Hid ((wr.alloc (.cells #[.int .u8 (b : Int)] 5)).heap[w.heap.size]? = some (.cells (mkb 16384 (tq (D.map PD.p) b 0)) 73 (0, 0))) := (X1.block _ (lt_of_block BL.out)).trans BL.out
      have XX1 := hide (bt X.out X1 (Nat.le_refl _))
      clear B1 X1 B0 X0 hmk
      go_upto_region 6 with fail
      generalize wr.alloc (.cells #[.int .u8 (b : Int)] 5) = w2 at *
      go_wp2
      go_loopg [19] (D.length + 1) (fun g x wr => ∃ k : Nat, x = .int .i64 (k : Nat) ∧ Hid (wr.heap[w.heap.size]? = some (.cells (mkb 16384 (tq (D.map PD.p) b k)) 73 (0, 0))) ∧ Hid (Below w.heap.size w wr) ∧ k ≤ D.length ∧ D.length - k < g)
      case atStart => exact ⟨0, rfl, BL1, XX1, by omega, by omega⟩
      case round =>
        obtain ⟨k, rfl, BL, X, hk, hg2⟩ := hrel
        have HG2 := hide hg2
        clear hg2 BL1 XX1 hcv
        by_cases hkl : k < D.length
        · have hkl' : (k : Int) < (D.length : Int) := by omega
          have h64 : (k : Int) < 64 := by omega
          rcases HAT.out with h | ⟨pb, off, rfl, hpb, hc⟩
          · rw [h] at hkl; simp at hkl
          obtain ⟨p0, p1, p2, p3, p4⟩ := hc k hkl
          have r0 := (X.out.cell (p := ⟨pb, off + k * 4, none⟩) hpb).trans p0
          have r1 := (X.out.cell (p := ⟨pb, off + k * 4 + 1, none⟩) hpb).trans p1
          have r2 := (X.out.cell (p := ⟨pb, off + k * 4 + 2, none⟩) hpb).trans p2
          have r3 := (X.out.cell (p := ⟨pb, off + k * 4 + 3, none⟩) hpb).trans p3
          have P4 := hide (p4.below X.out)
          have HR1 := hide (HR.out.one (List.mem_map_of_mem (f := PD.p) (List.getElem_mem hkl)))
          have HPL := hide (HLEN.out _ (List.getElem_mem hkl))
          have HTN : Hid (updb (tq (D.map PD.p) b k) (b * 64 + k) (tkB D[k].p ((b : Nat) : Int)) = tq (D.map PD.p) b (k + 1)) := by
            have := tq_next (D.map PD.p) b k (by rw [List.length_map]; exact hkl) (by rw [List.length_map]; exact hl)
            rw [getD_mapz D k hkl] at this
            exact this
          generalize D[k] = d at *
          clear hc p0 p1 p2 p3 p4
          have HM : Hid (∀ V : World, Below (wr.alloc (.cells #[.int .i64 d.p.kind, .int .i64 d.p.b, .bool d.p.no, .slice d.so d.p.set.length d.sc] 96)).heap.size (wr.alloc (.cells #[.int .i64 d.p.kind, .int .i64 d.p.b, .bool d.p.no, .slice d.so d.p.set.length d.sc] 96)) V → Calls Tryz.prog 31 #[.slice (some ⟨wr.heap.size, 0, none⟩) 1 1, .string ⟨#[UInt8.ofNat b]⟩] V fun e w' => e = .returned (.tuple #[.bool (tkB d.p ((b : Nat) : Int)), .int .i64 0]) ∧ Below wr.heap.size wr w') := fun V x => by
            have x2 : Below wr.heap.size wr (wr.alloc (.cells #[.int .i64 d.p.kind, .int .i64 d.p.b, .bool d.p.no, .slice d.so d.p.set.length d.sc] 96)) := al (Below.refl _ _) _
            have x3 := bt x2 x (Nat.le_refl _)
            have := match_any (some ⟨wr.heap.size, 0, none⟩) 1 [d] [UInt8.ofNat b] V (by simp) (fun y hy => by rw [List.mem_singleton.1 hy]; exact HPL.out) ((pcAt_one wr d (P4.out.below x2)).below x)
            refine this.mono ?_
            rintro e w' ⟨h, x4⟩
            refine ⟨?_, bt x3 x4 (Nat.le_refl _)⟩
            rcases h with ⟨_, rfl⟩ | ⟨h, _⟩
            · have e1 : mtF ([d].map PD.p) [UInt8.ofNat b] ([d].map PD.p).length = tkB d.p (((UInt8.ofNat b).toNat : Nat) : Int) := one_takes d.p (UInt8.ofNat b)
              have e2 : (UInt8.ofNat b).toNat = b := by simp; omega
              rw [e1, e2]
            · exact absurd HR1.out h
          generalize tkB d.p ((b : Nat) : Int) = v at *
          have hq : b * 64 + k < 16384 := by omega
          have lw := lt_of_block BL.out
          have HCW : Hid (∀ V, Below wr.heap.size wr V → V.cell? ⟨w.heap.size, b * 64 + k, none⟩ = some (.bool (tq (D.map PD.p) b k (b * 64 + k))) ∧ V.frozen? ⟨w.heap.size, b * 64 + k, none⟩ = false) := fun V x => by
            have b1 := (x.block _ lw).trans BL.out
            exact ⟨by rw [cell_of_row _ _ _ _ _ _ b1]; exact mkb_get _ _ _ hq, frozen_of_row _ _ _ _ _ b1⟩
          go_wp2
          go_region_with (go_at_call 31; refine (HM.out _ ?_).mono ?_; exact (Below.refl _ _).drew; rintro e w4 ⟨rfl, x4⟩; obtain ⟨y1, y2⟩ := HCW.out w4 x4; have X4 := hide x4; clear x4)
          have b4 := (X4.out.block _ lw).trans BL.out
          have hk6 : Kept (fun i => i = w.heap.size) w4 (w4.setCell ⟨w.heap.size, b * 64 + k, none⟩ (.bool v)) := Kept.setCell (F := fun i => i = w.heap.size) (p := ⟨w.heap.size, b * 64 + k, none⟩) (Kept.refl _ _) rfl _
          have BN : Hid ((w4.setCell ⟨w.heap.size, b * 64 + k, none⟩ (.bool v)).heap[w.heap.size]? = some (.cells (mkb 16384 (tq (D.map PD.p) b (k + 1))) 73 (0, 0))) := by
            unfold Hid
            rw [← HTN.out, ← mkb_set]
            exact block_setCell b4 _ _
          have XN := hide ((bt X.out X4.out (Nat.le_refl _)).trans (hk6.below (Nat.le_trans X.out.size X4.out.size) (fun i hi => by omega)))
          clear b4 hk6
          go_wp2
          go_roundg (D.length - (k + 1) + 1)
          case measure => have := HG2.out; omega
          case rel => exact ⟨k + 1, by first | rfl | go_num | (congr 1; omega), BN, XN, by omega, by omega⟩
        · have hkl' : ¬ (k : Int) < (D.length : Int) := by omega
          obtain rfl : k = D.length := by omega
          have BN : Hid (wr.heap[w.heap.size]? = some (.cells (mkb 16384 (tq (D.map PD.p) (b + 1) 0)) 73 (0, 0))) := by
            unfold Hid
            rw [← tq_row, List.length_map]
            exact BL.out
          go_wp2
          go_roundg (256 - (b + 1) + 1)
          case measure => have := HG.out; omega
          case rel => exact ⟨b + 1, by first | rfl | go_num | (congr 1; omega), BN, X, by omega, by omega⟩
    · have hlt' : ¬ (b : Int) < 256 := by omega
      obtain rfl : b = 256 := by omega
      go_wp2
      go_ret
      exact ⟨rfl, BL.out, X.out⟩
end Go.Proofs.YtdgoilkgplnhfaaGreat
/-
  Things numbered by looks that are structs of bools. Condition: at most 2^32 things.
-/
namespace Go.Proofs.YtdgoilkgplnhfaaGreat
open Go.RowKit Go.Lib Go.Maps

theorem Tryz.info73 : (Tryz.prog.info? 73).map (fun i => (i.zero, i.size)) = some (some (.agg (Array.replicate 64 (Value.bool false))), 64) := by kernel_rfl
set_option maxRecDepth 100000 in
set_option maxHeartbeats 4000000 in
theorem numT_any (N : Nat) (c0 : Value) (look : Nat → Array Value) (lit : Nat → Lit) (w : World) (hN : N ≤ 4294967296) (hk : ∀ i, i < N → keyOf Tryz.prog 73 (.agg (look i)) = some (lit i)) (hls : ∀ i, i < N → (look i).size = 64) (hla : ∀ i, i < N → (look i).all (·.oneCell') = true) (hkl : ∀ i, i < N → WideAt.IsKeyLit (lit i))
    (hc : ∀ i, i < N → ∀ W, Below w.heap.size w W → Calls Tryz.prog 43 #[.int .i64 (i : Nat), c0] W fun e w' => e = .returned (.agg (look i)) ∧ Below W.heap.size W w') :
    Calls Tryz.prog 42 #[.int .i64 (N : Nat), .func (.func 43) #[] #[c0]] w fun e w' => (∃ v1 v2, e = .returned (.tuple #[v1, v2]) ∧ ∃ num fst, NmDone w.heap.size lit N v1 v2 num fst w') ∧ Below w.heap.size w w' := by
  obtain ⟨i3, hi3, hz30, hz31, hz32⟩ := info_parts Tryz.info3n
  have hz0 : ∀ W, (zeroValue 3).run Tryz.prog W = .ok (.int .i64 0) W := fun W => Tryz.zeroValue3 W
  have hmm : ∀ W : World, (Instr.makeMap 133 none).run Tryz.prog W = .ok (.map (some W.heap.size)) (W.alloc (.map #[] 0)) := fun W => rfl
  have HC := hide hc
  have HK := hide hk
  have HKL := hide hkl
  have HLS := hide hls
  have HLA := hide hla
  obtain ⟨hzv, hsz⟩ := zero_of_info Tryz.info73
  obtain ⟨z, hz⟩ : ∃ z, z = (Array.replicate 64 (Value.bool false)) := ⟨_, rfl⟩
  have hzs : z.size = 64 := by rw [hz]; simp
  rw [← hz] at hzv
  have HZS := hide hzs
  have HSZ := hide hsz
  clear hz hzs hsz hls hla
  clear hc hk hkl
  have S0 := hide (fun w2 h1 h2 => NmS.start 73 w lit N w2 h1 h2)
  go_enter Tryz.func42, Tryz.ntmps42
  go_wp2_with (at_make; refine wpList_make_full _ rfl (.tmp 12) (.tmp 12) 22 rfl w.heap.size 3 i3 (.int .i64 0) 1 Tryz.underlying22 hi3 hz30 hz31 .i64 .i64 _ _ N rfl rfl rfl rfl (by rw [hz32]; omega) (by unfold maxLen; omega) (by simp) ?_; intro w2 h1 h2; have S1 := hide (S0.out w2 h1 h2); clear h1 h2)
  go_loopg [5, 15] (N + 1) (fun g v2 x wr => ∃ (num fst : List Nat), x = .int .i64 (num.length : Nat) ∧ Hid (NmS 73 w lit N w.heap.size (.slice (some ⟨w.heap.size + 1, 0, none⟩) N N) v2 num fst wr) ∧ N - num.length < g)
  case atStart => exact ⟨[], [], rfl, S1, by simp⟩
  case round =>
    obtain ⟨num, fst, rfl, S, hg⟩ := hrel
    have HG := hide hg
    clear hg S1 S0
    have hle := S.out.le
    obtain ⟨a2, k2, hv2, _⟩ := own_shape S.out.o2
    subst hv2
    by_cases hi : num.length < N
    · have hi' : (num.length : Int) < (N : Int) := by omega
      have H1 := hide (HC.out num.length hi wr S.out.bel)
      go_wp2_with (fail)
      refine H1.out.mono ?_
      rintro e w3 ⟨rfl, x3⟩
      clear H1
      obtain ⟨m, hmm2⟩ : ∃ m, m = look num.length := ⟨_, rfl⟩
      have HI : Hid ((Tryz.prog.info? 73).map (·.size) = some m.size) := by unfold Hid; rw [HSZ.out, hmm2, HLS.out _ hi]
      have HZ2 : Hid (z.size = m.size) := by unfold Hid; rw [HZS.out, hmm2, HLS.out _ hi]
      have HAL : Hid (m.all (·.oneCell') = true) := by unfold Hid; rw [hmm2]; exact HLA.out _ hi
      have HK0 := HK.out num.length hi
      rw [← hmm2] at HK0 ⊢
      have HBZ := hide (heap_alloc_new w3 (.cells z 73))
      have HBM := heap_alloc_new w3 (.cells m 73)
      have y3 : Below w3.heap.size w3 (w3.alloc (.cells m 73)) := al (Below.refl _ _) _
      have S4 := S.out.below (bt x3 y3 (Nat.le_refl _))
      have bb3 : ∃ bb, bb = w3.heap.size := ⟨_, rfl⟩
      clear hmm2 x3 y3
      go_upto_region 7 with (refine wpList_store_row rfl 73 (.tmp 8) (.tmp 20) rfl w3.heap.size m rfl rfl 73 z HBZ.out HI.out HZ2.out HAL.out ?_; rw [World.setRow_alloc_new])
      generalize w3.alloc (.cells m 73) = w5 at *
      obtain ⟨bb, hbb⟩ := bb3
      rw [← hbb] at HBM ⊢
      clear hbb HBZ
      have HBM := hide HBM
      rename World => w3
      have S3 := hide S4
      clear S4
      obtain ⟨D, hown, hh, ha⟩ := S3.out.map
      have HK1 := hide HK0
      clear HK0
      have HOWN := hide hown
      have HA := hide ha
      have hfl : fst.length ≤ num.length := by
        have h := S3.out.nf
        exact pigeon num.length fst.length (gN fst) h.fstlt (fun i h1 j h2 e => by rw [← h.numfst i h1, ← h.numfst j h2, e])
      by_cases hm : lit num.length ∈ fst.map lit
      · have hhas : Maps.has D (lit num.length) = true := (hh _).2 hm
        have HHIT : Hid (∀ c : Int, D.atKey (lit num.length) (.lit (.int .i64 0)) = .lit (.int .i64 c) → ∃ n, n < fst.length ∧ lit (gN fst n) = lit num.length ∧ c = (n : Int)) := fun c hc => by
          obtain ⟨n, hn, e, rfl⟩ := atKey_lit HA.out hc hm
          rw [List.length_map] at hn
          refine ⟨n, hn, ?_, rfl⟩
          rw [← e, List.getElem_map, gN_lt hn]
        obtain ⟨⟨u1, q1⟩, q2⟩ := S3.out.slot hi
        have HST := hide (fun n hn he => S3.out.hit (n := n) hi hn he)
        go_wp2_with (first | (refine wpList_load_row rfl 73 (.tmp 8) rfl bb rfl 73 m (0, 0) _ HBM.out Tryz.underlying73 rfl HI.out ?_) | (at_lookup; refine wpList_lookup_own_ok_int _ rfl _ _ 133 rfl 73 3 .i64 keyed73 Tryz.underlying133 Tryz.underlying3 (hz0 _) w.heap.size _ D rfl HOWN.out _ _ rfl HK1.out ?_; intro c hat hwc; obtain ⟨n, hn, hne, rfl⟩ := HHIT.out c hat; have S4 := hide (HST.out n hn hne); clear hat hwc hn hne))
        go_roundg (N - (num.length + 1) + 1)
        case measure => have := HG.out; omega
        case rel => exact ⟨num ++ [n], fst, by simp, S4, by simp⟩
      · have hhas : Maps.has D (lit num.length) = false := by
          cases hx : Maps.has D (lit num.length) with
          | false => rfl
          | true => exact absurd ((hh _).1 hx) hm
        have HPL : Hid (plainElem (H := Unit) Tryz.prog 3 (.int .i64 (fst.length : Int)) = some (.lit (.int .i64 (fst.length : Int)), [])) := plainElem_int Tryz.underlying3 (by simp [Lit.wf, IntKind.min, IntKind.max, IntKind.signed, IntKind.bits]; omega)
        have HFN : Hid ((fst.map lit).length < maxLen) := by unfold Hid maxLen; rw [List.length_map]; omega
        have HPUT := hide (fun (w4 : World) h1 (t4 : w3.mapTurned w4 w.heap.size) => S3.out.put (w' := w4) hm (HKL.out _ hi) hh ha HOWN.out h1 t4)
        go_wp2_with (first
          | (refine wpList_load_row rfl 73 (.tmp 8) rfl bb rfl 73 m (0, 0) _ HBM.out Tryz.underlying73 rfl HI.out ?_)
          | (at_lookup; refine wpList_lookup_own_ok_int _ rfl _ _ 133 rfl 73 3 .i64 keyed73 Tryz.underlying133 Tryz.underlying3 (hz0 _) w.heap.size _ D rfl HOWN.out _ _ rfl HK1.out ?_; intro c hat hwc; clear hat hwc)
          | (at_mapUpdate; refine wpList_mapUpdate_in _ rfl _ _ _ 133 rfl 73 3 keyed73 Tryz.underlying133 _ w.heap.size _ D rfl HOWN.out HFN.out _ _ _ rfl rfl HK1.out _ [] HPL.out ?_; intro w4 h4 t4; have S4 := hide (HPUT.out w4 h4 t4); have O5 := hide S4.out.o5; have HN5 := hide (one_int w4 num.length 3); have HS5 : Hid (w.heap.size ≤ (w4.alloc (.cells #[.int .i64 (num.length : Nat)] 3)).heap.size) := S4.out.s5; clear h4 t4)
          | (at_builtin; refine wpList_append_view rfl (.tmp 34) (.tmp 36) 22 rfl w.heap.size 3 i3 (.int .i64 0) 1 8 Tryz.underlying22 hi3 hz30 hz31 hz32 rfl (by decide) _ fst.length (nCells fst) rfl O5.out ⟨w4.heap.size, 0, none⟩ 1 1 [.int .i64 (num.length : Nat)] rfl rfl HN5.out (by simp [Value.oneCell']) (by decide) (by unfold maxLen; omega) (by omega) HS5.out ?_; intro v6 w6 g1 g2; obtain ⟨⟨⟨u6, q1⟩, q2⟩, S6⟩ := S4.out.app hi g1 g2; have S6 := hide S6; clear g1 g2))
        go_roundg (N - (num.length + 1) + 1)
        case measure => have := HG.out; omega
        case rel => exact ⟨num ++ [fst.length], fst ++ [num.length], by simp, S6, by simp⟩
    · have hi' : ¬ (num.length : Int) < (N : Int) := by omega
      go_wp2
      go_ret2
      refine ⟨⟨_, _, rfl, num, fst, ?_⟩, S.out.bel⟩
      have e : num.length = N := by omega
      have h1 := S.out.o1
      rw [e, Nat.sub_self, List.replicate_zero, List.append_nil] at h1
      exact ⟨h1, S.out.o2, S.out.ap, e, by have := S.out.nf; rw [e] at this; exact this⟩


end Go.Proofs.YtdgoilkgplnhfaaGreat
/-
  Loads of whole structs from any place, entries of a map's literal: laws. No condition.
-/
namespace Go.Proofs.YtdgoilkgplnhfaaGreat
open Go.RowKit Go.Lib Go.Maps

section
variable {P : Program}
theorem run_loadVar_at (w : World) (p : Addr) (ty : TypeId) (cs : Array Value) (d : TypeDesc) (hc : ∀ j v, cs[j]? = some v → w.cell? (p.add j) = some v)
    (hu : P.underlying ty = some d) (hd : (match d with | .struct _ | .array _ _ => true | _ => false) = true) (hi : (P.info? ty).map (·.size) = some cs.size) :
    (loadVar ty p).run P w = .ok (.agg cs) w := by
  have hl : (loadCells p cs.toList.length).run P w = .ok cs.toList.toArray w :=
    run_loadCells_list (P := P) w p cs.toList (fun j v hv => hc j v (by simpa using hv))
  cases hq : P.info? ty with
  | none => simp [hq] at hi
  | some i =>
    have hs : i.size = cs.size := by simpa [hq] using hi
    have hagg : (isAgg ty).run P w = .ok true w := by
      unfold isAgg
      rw [Sem.run_bind, run_underlying hu w]
      cases d <;> simp_all
    simp only [Array.length_toList, Array.toArray_toList] at hl
    simp [loadVar, Sem.run_bind, hagg, sizeOf, typeInfo, hq, hs, hl]
theorem wpList_load_at {ops : Array Oper} {rest : List Oper} {o : Oper} {a : Act} {w : World} {Q : Exit → Act → World → Prop} (hgd : o.guard = none) (ty : TypeId) (x : Operand) (ho : o.op = .load ty x)
    (p : Addr) (hx : a.eval x = .pointer (some p)) (cs : Array Value) (d : TypeDesc) (hc : ∀ j v, cs[j]? = some v → w.cell? (p.add j) = some v)
    (hu : P.underlying ty = some d) (hd : (match d with | .struct _ | .array _ _ => true | _ => false) = true) (hi : (P.info? ty).map (·.size) = some cs.size)
    (h : wpList P ops Q rest (a.put o.dst (.agg cs)) w) : wpList P ops Q (o :: rest) a w :=
  wpList_plain hgd fun _ hK => by
    unfold Oper.wp execOp
    simp only [ho, hx, Instr.loadAt, Instr.sureAddr, Sem.run_bind, Sem.run_pure, Result.andThen_ok, run_loadVar_at w p ty cs d hc hu hd hi]
    exact hK _ _ h
theorem wpList_insert_in {H : Type} {ops : Array Oper} {rest : List Oper} {o : Oper} {a : Act} {w : World} {Q : Exit → Act → World → Prop} (hg : o.guard = none) (m x v : Operand) (t : TypeId) (hop : o.op = Op.insert t m x v)
    (k e : TypeId) (K : Keyed P k) (ht : P.underlying t = some (.map k e)) (R : Value → Option (DataW H × List MemPlace)) (b n : Nat) (D : DataW H)
    (hm : a.eval m = .map (some b)) (hown : w.ownsMap P k R b n D) (hn : n < maxLen) (key val : Value) (kl : Lit) (hx : a.eval x = key) (hv : a.eval v = val) (hkey : keyOf P k key = some kl)
    (d : DataW H) (ps : List MemPlace) (hval : R val = some (d, ps))
    (hK : ∀ w', w'.ownsMap P k R b (n + 1) (D.put kl d) → w.mapTurned w' b → wpList P ops Q rest (a.put o.dst undef) w') :
    wpList P ops Q (o :: rest) a w := by
  refine wpList_plain hg fun K' hK' => ?_
  obtain ⟨w', hrun, r1, r2⟩ := hown.store K ht hn hkey hval
  unfold Oper.wp
  simp [execOp, hop, hm, hx, hv, hrun, Result.andThen]
  exact hK' _ _ (hK w' r1 r2)
theorem wpList_buildOne {ops : Array Oper} {rest : List Oper} {o : Oper} {a : Act} {w : World} {Q : Exit → Act → World → Prop} (hg : o.guard = none) (t e : TypeId) (x : Operand) (ho : o.op = .buildSlice t 1 #[(0, x)])
    (cs : Array Value) (hx : a.eval x = .agg cs) (ie : TypeInfo) (z : Value) (hu : P.underlying t = some (.slice e)) (hie : P.info? e = some ie) (hz : ie.zero = some z) (hsz : ie.size = cs.size) (h0 : 0 < cs.size) (hsm : cs.size ≤ 2 ^ 24)
    (h : wpList P ops Q rest (a.put o.dst (.slice (some ⟨w.heap.size, 0, none⟩) 1 1)) (w.alloc (.cells cs e))) : wpList P ops Q (o :: rest) a w := by
  obtain ⟨r, hr, hrs, hrk⟩ := Great.fill_dense (s := cs.size) h0 [.agg cs] 0 ((Array.range (1 * ie.size)).map (z.cells[· % z.cells.size]!)) (fun v hv => by rw [List.mem_singleton.1 hv]; rfl) (by simp [hsz])
  have e : r = cs := by
    apply Array.ext
    · rw [hrs]; simp [hsz]
    · intro k h1 h2
      have := hrk k
      rw [if_pos ⟨by omega, by simp; exact h2⟩] at this
      rw [Array.getElem?_eq_getElem h1, Nat.div_eq_of_lt h2, Nat.mod_eq_of_lt h2] at this
      simpa [Value.cells, h2] using this
  subst e
  refine wpList_buildSlice hg t e 1 _ ho r ie z hu hie hz (by rw [hsz]; omega) (by rw [hsz]; omega) ?_ h
  rw [hsz] at hr ⊢
  rw [← hr]
  simp [hx]
end
end Go.Proofs.YtdgoilkgplnhfaaGreat
/-
  The functions that Of hands on, by their contracts. Condition: there are at most 64 pieces.
-/
namespace Go.Proofs.YtdgoilkgplnhfaaGreat
open Go.RowKit Go.Lib Go.Maps

theorem row64 {V : World} {tg : Nat} {F : Nat → Bool} (hB : V.heap[tg]? = some (.cells (mkb 16384 F) 73 (0, 0))) {b : Nat} (hb : b < 256) : ∀ j v, (mk64 fun i => F (b * 64 + i))[j]? = some v → V.cell? ((⟨tg, b * 64, none⟩ : Addr).add j) = some v := fun j v hv => by
  have hj : j < 64 := by
    apply Nat.lt_of_not_le
    intro h
    rw [Array.getElem?_eq_none (by rw [mk64_size]; exact h)] at hv
    cases hv
  rw [mk64_get _ _ hj] at hv
  rw [addr_add, cell_of_row _ _ _ _ _ _ hB, mkb_get _ _ _ (by omega)]
  exact hv
theorem exec_load_at {P : Program} {o : Oper} {a : Act} {V : World} (ty : TypeId) (x : Operand) (ho : o.op = .load ty x) (p : Addr) (hx : a.eval x = .pointer (some p)) (v : Value) (hl : (loadVar ty p).run P V = .ok v V) : (execOp a.eval o).run P V = .ok (.value v) V := by
  unfold execOp
  simp only [ho, hx, Instr.loadAt, Instr.sureAddr, Sem.run_bind, Sem.run_pure, Result.andThen_ok, hl]
set_option maxRecDepth 100000 in
set_option maxHeartbeats 4000000 in
theorem of1_any (b pg tg : Nat) (F : Nat → Bool) (w : World) (hb : b < 256) (hp : w.cell? ⟨pg, 0, none⟩ = some (.slice (some ⟨tg, 0, none⟩) 256 256)) (hpl : pg < w.heap.size) (hB : w.heap[tg]? = some (.cells (mkb 16384 F) 73 (0, 0))) :
    Calls Tryz.prog 43 #[.int .i64 (b : Nat), .pointer (some ⟨pg, 0, none⟩)] w fun e w' => e = .returned (.agg (mk64 fun i => F (b * 64 + i))) ∧ Below w.heap.size w w' := by
  obtain ⟨hzv, hsz⟩ := zero_of_info Tryz.info73
  obtain ⟨z, hz⟩ : ∃ z, z = (Array.replicate 64 (Value.bool false)) := ⟨_, rfl⟩
  have HZS : Hid (z.size = 64) := by unfold Hid; rw [hz]; simp
  rw [← hz] at hzv
  clear hz
  have hlt : (b : Int) < 256 := by omega
  have X1 : Below w.heap.size w (w.alloc (.cells z 73)) := al (Below.refl _ _) _
  have B1 := hide (heap_alloc_new w (.cells z 73))
  have c0 := (X1.cell (p := ⟨pg, 0, none⟩) hpl).trans hp
  have BB := hide ((X1.block _ (lt_of_block hB)).trans hB)
  have HC := hide (row64 BB.out hb)
  obtain ⟨m, hm⟩ : ∃ m, Hid (m = mk64 fun i => F (b * 64 + i)) := ⟨_, rfl⟩
  rw [← hm.out] at HC
  have HI : Hid ((Tryz.prog.info? 73).map (·.size) = some m.size) := by unfold Hid; rw [hsz, hm.out, mk64_size]
  have HZ2 : Hid (z.size = m.size) := by unfold Hid; rw [HZS.out, hm.out, mk64_size]
  have HAL : Hid (m.all (·.oneCell') = true) := by unfold Hid; rw [hm.out]; exact mk64_all _
  have X1 := hide X1
  clear hsz hp hB hpl
  go_enter Tryz.func43, Tryz.ntmps43
  go_wp2_with (first
    | (refine wpList_load_at rfl 73 (.tmp 6) rfl ⟨tg, b * 64, none⟩ (by first | rfl | (simp; done)) m _ HC.out Tryz.underlying73 rfl HI.out ?_)
    | (refine wpList_store_row rfl 73 (.tmp 3) (.tmp 7) rfl w.heap.size m rfl rfl 73 z B1.out HI.out HZ2.out HAL.out ?_))
  have HBN := hide (setRow_heap _ w.heap.size z m 73 (0, 0) B1.out)
  have HXN := hide (below_setRow X1.out (Nat.le_refl w.heap.size) m)
  refine bodyPost_ret (v := .agg m) (results_cell_row rfl _ _ w.heap.size 73 m (0, 0) _ rfl HBN.out Tryz.underlying73 rfl HI.out) rfl ?_
  exact ⟨by rw [hm.out], HXN.out⟩
set_option maxRecDepth 100000 in
set_option maxHeartbeats 8000000 in
theorem of2_any (ao : Option Addr) (cap fc c q p0 p1 p2 tg : Nat) (fa : Option Addr) (fst : List Nat) (D : List PD) (f F : Nat → Bool) (w : World) (hl : D.length ≤ 64) (hq : fst[c]? = some q) (hqb : q < 256) (hat : PcAt w ao D) (hfa : NAt w fa fst)
    (h0 : w.cell? ⟨p0, 0, none⟩ = some (.slice ao D.length cap)) (h1 : w.cell? ⟨p1, 0, none⟩ = some (.slice (some ⟨tg, 0, none⟩) 256 256)) (h2 : w.cell? ⟨p2, 0, none⟩ = some (.slice fa fst.length fc)) (l0 : p0 < w.heap.size) (l1 : p1 < w.heap.size) (l2 : p2 < w.heap.size) (hB : w.heap[tg]? = some (.cells (mkb 16384 F) 73 (0, 0))) :
    Calls Tryz.prog 46 #[.agg (mk f), .int .i64 (c : Nat), .pointer (some ⟨p0, 0, none⟩), .pointer (some ⟨p1, 0, none⟩), .pointer (some ⟨p2, 0, none⟩)] w fun e w' => e = .returned (.agg (mk (clF (D.map PD.p) (agF (D.map PD.p) f (fun i => F (q * 64 + i)) D.length) D.length))) ∧ Below w.heap.size w w' := by
  obtain ⟨hzv, hsz⟩ := zero_of_info Tryz.info80
  have HZS := hide (mk_size fun _ => false)
  have hs := mk_size f
  obtain ⟨z, hz⟩ : ∃ z, Hid (z = mk fun _ => false) := ⟨_, rfl⟩
  rw [← hz.out] at hzv HZS
  obtain ⟨a, ha⟩ : ∃ a, Hid (a = mk f) := ⟨_, rfl⟩
  rw [← ha.out] at hs ⊢
  obtain ⟨hc, hcq⟩ := List.getElem?_eq_some_iff.1 hq
  obtain ⟨fb, fo, rfl, hfb, cf⟩ := hfa.get hc
  rw [hcq] at cf
  have hc' : (c : Int) < (fst.length : Int) := by omega
  have hq' : (q : Int) < 256 := by omega
  have e1 : (w.alloc (.cells a 80)).heap.size = w.heap.size + 1 := by simp
  have x1 : Below w.heap.size w (w.alloc (.cells a 80)) := al (Below.refl _ _) _
  have b1 := heap_alloc_new w (.cells a 80)
  have x2 : Below (w.alloc (.cells a 80)).heap.size (w.alloc (.cells a 80)) ((w.alloc (.cells a 80)).alloc (.cells z 80)) := al (Below.refl _ _) _
  have b2 := heap_alloc_new (w.alloc (.cells a 80)) (.cells z 80)
  have X2 := bt x1 x2 (Nat.le_refl _)
  have BA := (x2.block _ (by omega)).trans b1
  rw [e1] at b2
  obtain ⟨w2, hw2⟩ : ∃ w2, w2 = (w.alloc (.cells a 80)).alloc (.cells z 80) := ⟨_, rfl⟩
  rw [← hw2] at X2 BA b2
  clear x1 x2 b1 e1
  have HBZ := hide b2
  have lz := lt_of_block b2
  have lA := lt_of_block BA
  have lt := lt_of_block hB
  obtain ⟨m1, hm1⟩ : ∃ m, Hid (m = mk64 fun i => F (q * 64 + i)) := ⟨_, rfl⟩
  obtain ⟨m, hm⟩ : ∃ m, Hid (m = mk (clF (D.map PD.p) (agF (D.map PD.p) f (fun i => F (q * 64 + i)) D.length) D.length)) := ⟨_, rfl⟩
  have HSK : Hid (∀ V V', Below w2.heap.size w2 V → Kept (fun i => i = w.heap.size + 1) V V' → V'.cell? ⟨p0, 0, none⟩ = some (.slice ao D.length cap) ∧ V'.cell? ⟨p1, 0, none⟩ = some (.slice (some ⟨tg, 0, none⟩) 256 256) ∧ V'.cell? ⟨p2, 0, none⟩ = some (.slice (some ⟨fb, fo, none⟩) fst.length fc) ∧ V'.cell? ⟨fb, fo + c, none⟩ = some (.int .i64 (q : Int)) ∧ (loadVar 80 ⟨w.heap.size, 0, none⟩).run Tryz.prog V' = .ok (.agg a) V' ∧ (loadVar 73 ⟨tg, q * 64, none⟩).run Tryz.prog V' = .ok (.agg m1) V') := fun V V' x k => by
    have y := bt X2 x (Nat.le_refl _)
    have kc : ∀ {p : Addr}, p.block < w.heap.size → V'.cell? p = w.cell? p := fun {p} hp => by
      have hp2 : p.block < V.heap.size := Nat.lt_of_lt_of_le hp y.size
      exact (World.cell?_of_block (k.block _ hp2 (by omega))).trans (y.cell hp)
    have kb : ∀ g, g < w2.heap.size → ¬ g = w.heap.size + 1 → V'.heap[g]? = w2.heap[g]? := fun g h1 h2 => (k.block _ (Nat.lt_of_lt_of_le h1 x.size) h2).trans (x.block _ h1)
    refine ⟨(kc (p := ⟨p0, 0, none⟩) l0).trans h0, (kc (p := ⟨p1, 0, none⟩) l1).trans h1, (kc (p := ⟨p2, 0, none⟩) l2).trans h2, (kc (p := ⟨fb, fo + c, none⟩) hfb).trans cf, ?_, ?_⟩
    · exact run_loadVar_row V' w.heap.size 80 80 a (0, 0) _ ((kb _ lA (by omega)).trans BA) Tryz.underlying80 rfl (by rw [hsz, hs])
    · rw [hm1.out]
      have e2 : w2.heap[tg]? = w.heap[tg]? := X2.block _ lt
      exact run_loadVar_at V' ⟨tg, q * 64, none⟩ 73 _ _ (row64 ((kb _ (Nat.lt_of_lt_of_le lt X2.size) (by omega)).trans (e2.trans hB)) hqb) Tryz.underlying73 rfl (by rw [(zero_of_info Tryz.info73).2, mk64_size])
  have HS : Hid (∀ V, Below w2.heap.size w2 V → V.cell? ⟨p0, 0, none⟩ = some (.slice ao D.length cap) ∧ V.cell? ⟨p1, 0, none⟩ = some (.slice (some ⟨tg, 0, none⟩) 256 256) ∧ V.cell? ⟨p2, 0, none⟩ = some (.slice (some ⟨fb, fo, none⟩) fst.length fc) ∧ V.cell? ⟨fb, fo + c, none⟩ = some (.int .i64 (q : Int)) ∧ (loadVar 80 ⟨w.heap.size, 0, none⟩).run Tryz.prog V = .ok (.agg a) V ∧ (loadVar 73 ⟨tg, q * 64, none⟩).run Tryz.prog V = .ok (.agg m1) V) := fun V x => HSK.out V V x (Kept.refl _ _)
  have HAF : Hid (∀ V, Below w2.heap.size w2 V → Calls Tryz.prog 47 #[.slice ao D.length cap, .agg a, .agg m1] V fun e w' => e = .returned (.agg m) ∧ Below V.heap.size V w') := fun V x => by
    rw [ha.out, hm1.out, hm.out]
    exact after6_any ao cap D f _ V hl (hat.below (bt X2 x (Nat.le_refl _)))
  have HI : Hid ((Tryz.prog.info? 80).map (·.size) = some m.size) := by unfold Hid; rw [hsz, hm.out, mk_size]
  have HZ2 : Hid (z.size = m.size) := by unfold Hid; rw [HZS.out, hm.out, mk_size]
  have HAL : Hid (m.all (·.oneCell') = true) := by unfold Hid; rw [hm.out]; exact mk_all _
  have X2 := hide X2
  obtain ⟨g0, g1, g2, g3, g4, g5⟩ := HS.out w2 (Below.refl _ _)
  clear hsz hs h0 h1 h2 l0 l1 l2 hB hat hfa hq hcq cf BA b2
  go_enter Tryz.func46, Tryz.ntmps46
  go_upto_region 1 with fail
  rw [← hw2]
  clear hw2
  refine wp_region_held (S := fun V => V.cell? ⟨p0, 0, none⟩ = some (.slice ao D.length cap) ∧ V.cell? ⟨p1, 0, none⟩ = some (.slice (some ⟨tg, 0, none⟩) 256 256) ∧ V.cell? ⟨p2, 0, none⟩ = some (.slice (some ⟨fb, fo, none⟩) fst.length fc) ∧ V.cell? ⟨fb, fo + c, none⟩ = some (.int .i64 (q : Int)) ∧ (loadVar 80 ⟨w.heap.size, 0, none⟩).run Tryz.prog V = .ok (.agg a) V ∧ (loadVar 73 ⟨tg, q * 64, none⟩).run Tryz.prog V = .ok (.agg m1) V) (by kernel_rfl) ?_
  change wpAnyH _ _ _ _ _ _ _ _ (World.drew _)
  have hS2 := HS.out w2.drew (Below.refl _ _).drew
  refine wpAnyH_take (i := 0) (v := .slice ao D.length cap) rfl (by kernel_rfl) (by kernel_rfl) (by kernel_rfl) (fun _ _ _ h => h) (Or.inl ⟨by rfl, fun V hV => by obtain ⟨g0, g1, g2, g3, _, _⟩ := hV; go_simp⟩) hS2 ?_
  refine wpAnyH_take (i := 1) (v := .agg a) rfl (by kernel_rfl) (by kernel_rfl) (by kernel_rfl) (fun _ _ _ h => h) (Or.inl ⟨by rfl, fun V hV => exec_load_at 80 (.tmp 5) rfl ⟨w.heap.size, 0, none⟩ rfl _ hV.2.2.2.2.1⟩) hS2 ?_
  refine wpAnyH_take (i := 2) (v := .slice (some ⟨tg, 0, none⟩) 256 256) rfl (by kernel_rfl) (by kernel_rfl) (by kernel_rfl) (fun _ _ _ h => h) (Or.inl ⟨by rfl, fun V hV => by obtain ⟨g0, g1, g2, g3, _, _⟩ := hV; go_simp⟩) hS2 ?_
  refine wpAnyH_take (i := 3) (v := .slice (some ⟨fb, fo, none⟩) fst.length fc) rfl (by kernel_rfl) (by kernel_rfl) (by kernel_rfl) (fun _ _ _ h => h) (Or.inl ⟨by rfl, fun V hV => by obtain ⟨g0, g1, g2, g3, _, _⟩ := hV; go_simp⟩) hS2 ?_
  refine wpAnyH_take (i := 4) (v := .int .i64 (c : Nat)) rfl (by kernel_rfl) (by kernel_rfl) (by kernel_rfl) (fun _ _ _ h => h) (Or.inl ⟨by rfl, fun V hV => by obtain ⟨g0, g1, g2, g3, _, _⟩ := hV; go_simp⟩) hS2 ?_
  refine wpAnyH_take (i := 5) (v := .pointer (some ⟨fb, fo + c, none⟩)) rfl (by kernel_rfl) (by kernel_rfl) (by kernel_rfl) (fun _ _ _ h => h) (Or.inl ⟨by rfl, fun V hV => by obtain ⟨g0, g1, g2, g3, _, _⟩ := hV; go_simp⟩) hS2 ?_
  refine wpAnyH_take (i := 6) (v := .int .i64 (q : Int)) rfl (by kernel_rfl) (by kernel_rfl) (by kernel_rfl) (fun _ _ _ h => h) (Or.inl ⟨by rfl, fun V hV => by obtain ⟨g0, g1, g2, g3, _, _⟩ := hV; go_simp⟩) hS2 ?_
  refine wpAnyH_take (i := 7) (v := .pointer (some ⟨tg, q * 64, none⟩)) rfl (by kernel_rfl) (by kernel_rfl) (by kernel_rfl) (fun _ _ _ h => h) (Or.inl ⟨by rfl, fun V hV => by obtain ⟨g0, g1, g2, g3, _, _⟩ := hV; go_simp⟩) hS2 ?_
  refine wpAnyH_take (i := 8) (v := .agg m1) rfl (by kernel_rfl) (by kernel_rfl) (by kernel_rfl) (fun _ _ _ h => h) (Or.inl ⟨by rfl, fun V hV => exec_load_at 73 (.tmp 15) rfl ⟨tg, q * 64, none⟩ rfl _ hV.2.2.2.2.2⟩) hS2 ?_
  refine wpAnyH_all (rs := [9]) (by kernel_rfl) (by simp) (fun i hi => ?_)
  obtain rfl : i = 9 := by simpa using hi
  refine wpOp_step rfl (fun K hK => ?_)
  go_simp
  refine (HAF.out _ (Below.refl _ _).drew).mono ?_
  rintro e w6 ⟨rfl, x6⟩
  have y6 : Below w2.heap.size w2 w6 := (Below.refl _ _).drew.trans x6
  have X6 := hide (bt X2.out y6 (Nat.le_refl _))
  have BR6 := hide ((y6.block _ lz).trans HBZ.out)
  refine hK _ _ ⟨HS.out _ y6, ?_⟩
  clear hK K hS2
  refine wpAnyH_all (rs := [10]) (by kernel_rfl) (by simp) (fun i hi => ?_)
  obtain rfl : i = 10 := by simpa using hi
  refine wpOp_step rfl (fun K hK => ?_)
  rw [if_pos (by rfl)]
  refine wp_store_row 80 (.tmp 7) (.tmp 17) rfl (w.heap.size + 1) m rfl rfl 80 z BR6.out HI.out HZ2.out HAL.out ?_
  have hk6 : Kept (fun i => i = w.heap.size + 1) w6 (w6.setRow (w.heap.size + 1) m) := ⟨rfl, rfl, rfl, by simp [World.setRow], fun i _ hi => by have hne : ¬ w.heap.size + 1 = i := fun h => hi h.symm; simp [World.setRow, Array.getElem?_modify, hne]⟩
  refine hK _ _ ⟨HSK.out _ _ y6 hk6, ?_⟩
  clear hK K
  refine wpAnyH_done (by kernel_rfl) ?_ _
  have HBN := hide (setRow_heap w6 (w.heap.size + 1) z m 80 (0, 0) BR6.out)
  have HXN := hide (below_setRow X6.out (Nat.le_succ w.heap.size) m)
  clear hk6
  go_wp2
  refine bodyPost_ret (v := .agg m) (results_cell_row rfl _ _ (w.heap.size + 1) 80 m (0, 0) _ rfl HBN.out Tryz.underlying80 rfl HI.out) rfl ?_
  exact ⟨by rw [hm.out], HXN.out⟩
end Go.Proofs.YtdgoilkgplnhfaaGreat
/-
  The sets of places that bytes lead to, by columns: what their automaton says of texts. Of no program: the conditions are named.
-/
namespace Go.Proofs.YtdgoilkgplnhfaaGreat
open Go.RowKit Go.Lib Go.Maps

/-- Where it begins. -/
def plZ (L : List Pc) : List Bool := plL (clF L (upd (fun _ => false) 0) L.length)
/-- Where a column leads. -/
def plC (L : List Pc) (fst : List Nat) (B : List Bool) (c : Nat) : List Bool := plL (clF L (agF L (plF B) (fun i => tq L 256 0 (gN fst c * 64 + i)) L.length) L.length)
theorem tq_at {L : List Pc} (hl : L.length ≤ 64) {q i : Nat} (hq : q < 256) (hi : i < L.length) : tq L 256 0 (q * 64 + i) = tkB (L.getD i zPc) ((q : Nat) : Int) := by
  have e1 : (q * 64 + i) / 64 = q := by omega
  have e2 : (q * 64 + i) % 64 = i := by omega
  unfold tq
  rw [e1, e2]
  simp [hq, hi]
theorem agF_af {L : List Pc} {f g : Nat → Bool} {b : Int} : ∀ (n : Nat), (∀ j, j < n → g j = tkB (L.getD j zPc) b) → agF L f g n = afF L f b n
  | 0, _ => rfl
  | n + 1, h => by
    have ih := agF_af (f := f) n (fun j hj => h j (by omega))
    have e := h n (by omega)
    unfold zPc at e
    unfold agF afF
    rw [ih, e]
theorem mk64_inj {f g : Nat → Bool} (h : mk64 f = mk64 g) {i : Nat} (hi : i < 64) : f i = g i := by
  have e : (mk64 f)[i]? = (mk64 g)[i]? := by rw [h]
  rw [mk64_get f i hi, mk64_get g i hi] at e
  injection e with e
  injection e
section
variable {L : List Pc} {num fst : List Nat} {lit : Nat → Lit}
/-- Columns lead as their bytes do. -/
theorem plC_is (hl : L.length ≤ 64) (nf : NumF lit 256 (gN num) (gN fst) fst.length) (hlit : ∀ b c, b < 256 → c < 256 → lit b = lit c → mk64 (fun i => tq L 256 0 (b * 64 + i)) = mk64 (fun i => tq L 256 0 (c * 64 + i))) (B : List Bool) {b : Nat} (hb : b < 256) : plC L fst B (gN num b) = plS L B b := by
  have hq := nf.fstlt _ (nf.numlt b hb)
  have hk := hlit _ _ hq hb (nf.lk b hb)
  unfold plC plS
  congr 1
  unfold stF
  rw [agF_af L.length (fun j hj => ?_)]
  have e := mk64_inj hk (show j < 64 by omega)
  rw [e, tq_at hl hb hj]
  have e2 : (UInt8.ofNat b).toNat = b := by simp; omega
  rw [e2]
theorem plC_run (hl : L.length ≤ 64) (nf : NumF lit 256 (gN num) (gN fst) fst.length) (hlit : ∀ b c, b < 256 → c < 256 → lit b = lit c → mk64 (fun i => tq L 256 0 (b * 64 + i)) = mk64 (fun i => tq L 256 0 (c * 64 + i))) : ∀ (t : List Nat) (B : List Bool), Txt t → t.foldl (fun x b => plC L fst x (gN num b)) B = t.foldl (plS L) B
  | [], _, _ => rfl
  | b :: t, B, ht => by
    rw [List.foldl_cons, List.foldl_cons, plC_is hl nf hlit B ht.tail.1]
    exact plC_run hl nf hlit t _ ht.tail.2
theorem plC_cols (hl : L.length ≤ 64) (nf : NumF lit 256 (gN num) (gN fst) fst.length) (hlit : ∀ b c, b < 256 → c < 256 → lit b = lit c → mk64 (fun i => tq L 256 0 (b * 64 + i)) = mk64 (fun i => tq L 256 0 (c * 64 + i))) : ∀ (u : List Nat) (B : List Bool), (∀ c ∈ u, c < fst.length) → u.foldl (plC L fst) B = (u.map (gN fst)).foldl (plS L) B ∧ Txt (u.map (gN fst))
  | [], _, _ => ⟨rfl, Txt.nil⟩
  | c :: u, B, hu => by
    have hc := hu c List.mem_cons_self
    obtain ⟨h1, h2⟩ := plC_cols hl nf hlit u (plC L fst B c) (fun x hx => hu x (List.mem_cons_of_mem _ hx))
    have h3 := plC_is hl nf hlit B (nf.fstlt c hc)
    rw [nf.numfst c hc] at h3
    refine ⟨?_, Txt.cons (nf.fstlt c hc) h2⟩
    rw [List.foldl_cons, List.map_cons, List.foldl_cons, h1, h3]
end
/-- A text as bytes. -/
theorem txt_nt {t : List Nat} (ht : Txt t) : ntL (btOf t) = t := by
  unfold ntL btOf
  rw [List.map_map]
  conv => rhs; rw [← List.map_id t]
  apply List.map_congr_left
  intro b hb
  have := ht b hb
  simp
  omega
theorem plS_run {L : List Pc} (hl : L.length ≤ 64) {t : List Nat} (ht : Txt t) : t.foldl (plS L) (plZ L) = plL (mtF L (btOf t)) := by
  have := mtF_pl hl (btOf t) (clF L (upd (fun _ => false) 0) L.length)
  rw [txt_nt ht] at this
  exact this
/-- More than 256 sets of places. -/
def OfMany (L : List Pc) : Prop := ∃ B : List (List Bool), B.length = 257 ∧ (∀ a, a < 257 → ∀ b, b < 257 → gS (plZ L) B a = gS (plZ L) B b → a = b) ∧ ∀ a, a < 257 → ∃ t : By, gS (plZ L) B a = plL (mtF L t)
/-- At most 256 of them. -/
def OfFew (L : List Pc) : Prop := ∃ B : List (List Bool), B.length ≤ 256 ∧ ∀ t : By, ∃ a, a < B.length ∧ gS (plZ L) B a = plL (mtF L t)
theorem few_not_many {L : List Pc} (h : OfFew L) (k : OfMany L) : False := by
  obtain ⟨A, hA, hA2⟩ := h
  obtain ⟨B, hB, hB1, hB2⟩ := k
  have h1 : ∀ a, a < 257 → ∃ c, c < A.length ∧ gS (plZ L) A c = gS (plZ L) B a := fun a ha => by
    obtain ⟨t, ht⟩ := hB2 a ha
    obtain ⟨c, hc, e⟩ := hA2 t
    exact ⟨c, hc, by rw [e, ht]⟩
  have h2 : ∃ f : Nat → Nat, ∀ a, a < 257 → f a < A.length ∧ gS (plZ L) A (f a) = gS (plZ L) B a := by
    classical
    exact ⟨fun a => if h : a < 257 then (h1 a h).choose else 0, fun a ha => by simp only [dif_pos ha]; exact (h1 a ha).choose_spec⟩
  obtain ⟨f, hf⟩ := h2
  have := pigeon A.length 257 f (fun a ha => (hf a ha).1) (fun a ha b hb e => hB1 a ha b hb (by rw [← (hf a ha).2, ← (hf b hb).2, e]))
  omega
end Go.Proofs.YtdgoilkgplnhfaaGreat
/-
  Keys that are structs of one array of 65 bools: they are read as keys, and tell just their elements. Of the program its types alone: no condition.
-/
namespace Go.Proofs.YtdgoilkgplnhfaaGreat
open Go.RowKit Go.Lib Go.Maps

theorem Tryz.info80b : (Tryz.prog.info? 80).map (fun i => (i.zero, i.size, i.bytes)) = some (some (.agg (mk fun _ => false)), 65, 65) := by kernel_rfl
theorem cells80 : Tryz.prog.cellsOf 80 = 65 ∧ Tryz.prog.cellsOf 78 = 65 ∧ Tryz.prog.cellsOf 4 = 1 := ⟨by kernel_rfl, by kernel_rfl, by kernel_rfl⟩
theorem ktype80 : Tryz.prog.keyType 80 = true := by kernel_rfl
theorem keyOf_places (B : List Bool) (hl : B.length = 65) : ∃ l, keyOf Tryz.prog 80 (.agg (B.map fun (b : Bool) => Value.bool b).toArray) = some l := by
  obtain ⟨c1, c2, c3⟩ := cells80
  have hlits : ∃ ls, Tryz.prog.keyLits (Tryz.prog.types.size + 1) 80 (B.map fun (b : Bool) => Value.bool b) = some ls := by
    rw [size_types]
    unfold Program.keyLits
    simp only [Tryz.underlying80]
    have hlen : (B.map fun (b : Bool) => Value.bool b).length = 65 := by rw [List.length_map, hl]
    rw [if_pos ⟨by rw [hlen, c1], by first | (simp; done) | kernel_rfl⟩]
    have h71 : ∃ ls, Tryz.prog.keyLits 253 78 (B.map fun (b : Bool) => Value.bool b) = some ls := by
      unfold Program.keyLits
      simp only [Tryz.underlying78]
      rw [if_pos (by rw [hlen, c2]), mapM_some _ (fun i => [Lit.bool (B.getD i false)]) (List.range 65) (fun i hi => ?_)]
      · exact ⟨_, rfl⟩
      · have hi' : i < B.length := by rw [hl]; exact List.mem_range.1 hi
        have e : ((B.map fun (b : Bool) => Value.bool b).drop (i * Tryz.prog.cellsOf 4)).take (Tryz.prog.cellsOf 4) = [.bool (B.getD i false)] := by
          rw [c3, Nat.mul_one, List.drop_eq_getElem_cons (by rw [List.length_map]; exact hi')]
          simp [List.getD_eq_getElem?_getD, hi']
        rw [e]
        exact bool_key _ 251
    obtain ⟨ls, hls⟩ := h71
    have e : ((B.map fun (b : Bool) => Value.bool b).drop 0).take (Tryz.prog.cellsOf 78) = B.map fun (b : Bool) => Value.bool b := by
      rw [List.drop_zero, c2, List.take_of_length_le (by rw [hlen]; exact Nat.le_refl _)]
    simp only [List.mapM_cons, List.mapM_nil, e, hls]
    exact ⟨_, rfl⟩
  obtain ⟨ls, hls⟩ := hlits
  unfold keyOf
  simp only [Tryz.underlying80]
  rw [if_pos (by
    rw [ktype80]
    simp [Value.formed, Tryz.underlying80, c1, hl])]
  have e : (Value.agg (B.map fun (b : Bool) => Value.bool b).toArray).cells.toList = B.map fun (b : Bool) => Value.bool b := by simp [Value.cells]
  rw [e, hls]
  exact ⟨_, rfl⟩
theorem keyed80 : Keyed Tryz.prog 80 := Keyed.of_law (deep_law_laid (m := 254) (by kernel_rfl) (by decide) (by rw [size_types]; decide) (by kernel_rfl) (by simp [Tryz.underlying80]))
theorem keyOf_pl (B : List Bool) (hl : B.length = 65) : ∃ l, keyOf Tryz.prog 80 (.agg (mk (plF B))) = some l := by
  have e : mk (plF B) = (B.map fun (b : Bool) => Value.bool b).toArray := by
    conv => rhs; rw [← plL_plF hl]
    unfold mk plL
    rw [List.map_map]
    rfl
  rw [e]
  exact keyOf_places B hl
end Go.Proofs.YtdgoilkgplnhfaaGreat
