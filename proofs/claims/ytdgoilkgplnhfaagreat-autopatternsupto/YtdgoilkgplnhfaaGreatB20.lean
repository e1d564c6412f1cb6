/-
  slices.Clone at rows of numbers. Condition: at most 65536 of them.
-/
import Derived.Test.YtdgoilkgplnhfaaGreatB13
import Derived.Lib.SliceRun
import Derived.Test.YtdgoilkgplnhfaaGreatB19
import Derived.Deep.RegionHeld3
import Derived.Test.YtdgoilkgplnhfaaGreatB10
import Derived.DeepKeys4
import Derived.Test.YtdgoilkgplnhfaaGreatB18
import Derived.Deep.WholeRow
import Derived.Laws.CopyOwn
import Derived.Deep.DeepCutAuto
import Derived.Deep.RegionWith
namespace Go.Proofs.YtdgoilkgplnhfaaGreat
open Go.RowKit Go.Lib

theorem addr_add' (b off n : Nat) : (⟨b, off, none⟩ : Addr).add n = ⟨b, off + n, none⟩ := by unfold Addr.add; split <;> simp_all
theorem NAt.cells {w : World} {a : Addr} {L : List Nat} (h : NAt w (some a) L) : ∀ j u, (nCells L)[j]? = some u → w.cell? (a.add j) = some u := fun j u hu => by
  have hj : j < L.length := by
    rcases Nat.lt_or_ge j L.length with h1 | h1
    · exact h1
    · rw [List.getElem?_eq_none (by rw [nCells_length]; exact h1)] at hu; cases hu
  obtain ⟨b, off, e, _, c⟩ := h.get hj
  injection e with e
  subst e
  rw [nCells_get L j hj] at hu
  rw [addr_add', c]
  exact hu
theorem nCells_one (L : List Nat) : ∀ u ∈ nCells L, u.oneCell' = true := fun u hu => by
  obtain ⟨n, _, rfl⟩ := List.mem_map.1 hu
  simp [Value.oneCell']
set_option maxRecDepth 100000 in
set_option maxHeartbeats 1000000 in
theorem cloneN_any (a : Addr) (cap : Nat) (L : List Nat) (w : World) (hl : L.length ≤ 65536) (hat : NAt w (some a) L) :
    Calls Tryz.prog 116 #[.slice (some a) L.length cap] w fun e w' => (∃ v', e = .returned v' ∧ OwnN w' w.heap.size v' L) ∧ Below w.heap.size w w' := by
  obtain ⟨i3, hi3, hz30, hz31, hz32⟩ := info_parts Tryz.info3n
  have hnil := fun (a : Option Addr) (n c : Nat) (W : World) => run_eql_slice_nil (P := Tryz.prog) W 22 3 a n c 0 0 Tryz.underlying22
  have hb1 : Below w.heap.size w (w.alloc (.cells #[] 3)) := (Below.refl _ _).alloc (Nat.le_refl _) _
  have HN := hide (hat.below hb1).cells
  have HO : Hid ((w.alloc (.cells #[] 3)).ownsRow w.heap.size 3 1 (.slice (some ⟨w.heap.size, 0, none⟩) 0 0) 0 []) := ⟨rfl, .inr ⟨w.heap.size, 0, #[], rfl, Nat.le_refl _, by show (w.heap.push _)[_]? = _; simp, Nat.le_refl _, by decide, rfl, rfl⟩⟩
  have HB := hide hb1
  have HL : Hid ((nCells L).length = L.length * 1) := by unfold Hid; rw [nCells_length, Nat.mul_one]
  clear hat hb1
  go_enter Tryz.func116, Tryz.ntmps116
  go_wp2_with (at_builtin; refine wpList_append_own_at _ rfl (.tmp 5) (.tmp 6) 22 rfl w.heap.size 3 i3 (.int .i64 0) 1 8 Tryz.underlying22 hi3 hz30 hz31 hz32 rfl (by decide) _ 0 [] rfl HO.out a L.length cap (nCells L) rfl HL.out HN.out (nCells_one L) (by unfold maxLen; omega) (by omega) HB.out.size ?_; intro v8 w8 h1 h2 _ h3; have H1 := hide h1; have H2 := hide h2; clear h1 h2 h3)
  go_ret
  refine ⟨⟨_, rfl, ?_⟩, HB.out.grown H2.out HB.out.size (fun k hk => by cases hk; exact Nat.le_refl _)⟩
  have := H1.out
  rw [Nat.zero_add, List.nil_append] at this
  exact this
end Go.Proofs.YtdgoilkgplnhfaaGreat
/-
  slices.Clone, slices.Index and slices.Compact at rows of pairs. Condition: at most 65536 of them.
-/
namespace Go.Proofs.YtdgoilkgplnhfaaGreat
open Go.RowKit Go.Lib

theorem Tryz.info48 : (Tryz.prog.info? 48).map (fun i => (i.zero, i.size, i.bytes)) = some (some (.agg #[.int .i64 0, .int .i64 0]), 2, 16) := by kernel_rfl
theorem OwnQ.cells {w : World} {base g cap n : Nat} {L : List Spn} (h : OwnQ w base (.slice (some ⟨g, 0, none⟩) n cap) L) {i : Nat} (hi : i < L.length) : w.cell? ⟨g, i * 2, none⟩ = some (.int .i64 (L.getD i (0, 0)).1) ∧ w.cell? ⟨g, i * 2 + 1, none⟩ = some (.int .i64 (L.getD i (0, 0)).2) ∧ w.frozen? ⟨g, i * 2, none⟩ = false ∧ w.frozen? ⟨g, i * 2 + 1, none⟩ = false := by
  have hh : w.ownsRow base 48 2 (.slice (some ⟨g, 0, none⟩) n cap) L.length (spCells L) := h
  have hn : n = L.length := by
    rcases hh.2 with ⟨e, e2⟩ | ⟨g', c', cur, e, _⟩
    · cases e
    · injection e with _ e2 _
  subst hn
  have := spCells_get L i hi
  exact ⟨(hh.cellAt (i * 2) (by omega)).trans this.1, (hh.cellAt (i * 2 + 1) (by omega)).trans this.2, hh.frozenAt _, hh.frozenAt _⟩
set_option maxRecDepth 100000 in
set_option maxHeartbeats 1000000 in
theorem cloneP_any (base g cap : Nat) (L : List Spn) (w : World) (hl : L.length ≤ 65536) (ho : OwnQ w base (.slice (some ⟨g, 0, none⟩) L.length cap) L) :
    Calls Tryz.prog 95 #[.slice (some ⟨g, 0, none⟩) L.length cap] w fun e w' => (∃ v', e = .returned v' ∧ OwnQ w' w.heap.size v' L) ∧ Below w.heap.size w w' := by
  obtain ⟨i0, hi0, hz0, hz1, hz2⟩ := info_parts Tryz.info48
  have hnil := fun (a : Option Addr) (n c : Nat) (W : World) => run_eql_slice_nil (P := Tryz.prog) W 44 48 a n c 0 0 Tryz.underlying44
  have hb1 : Below w.heap.size w (w.alloc (.cells #[] 48)) := (Below.refl _ _).alloc (Nat.le_refl _) _
  have hh : (w.alloc (.cells #[] 48)).ownsRow base 48 2 (.slice (some ⟨g, 0, none⟩) L.length cap) L.length (spCells L) := own_below ho hb1
  have HN : Hid (∀ j u, (spCells L)[j]? = some u → (w.alloc (.cells #[] 48)).cell? ((⟨g, 0, none⟩ : Addr).add j) = some u) := fun j u hu => by
    have hj : j < L.length * 2 := by
      rcases Nat.lt_or_ge j (L.length * 2) with h1 | h1
      · exact h1
      · rw [List.getElem?_eq_none (by rw [spCells_length]; exact h1)] at hu; cases hu
    rw [addr_add', Nat.zero_add, hh.cellAt j hj]
    exact hu
  have HO : Hid ((w.alloc (.cells #[] 48)).ownsRow w.heap.size 48 2 (.slice (some ⟨w.heap.size, 0, none⟩) 0 0) 0 []) := ⟨rfl, .inr ⟨w.heap.size, 0, #[], rfl, Nat.le_refl _, by show (w.heap.push _)[_]? = _; simp, Nat.le_refl _, by decide, rfl, rfl⟩⟩
  have HB := hide hb1
  have HL : Hid ((spCells L).length = L.length * 2) := spCells_length L
  clear ho hb1 hh
  go_enter Tryz.func95, Tryz.ntmps95
  go_wp2_with (at_builtin; refine wpList_append_own_at _ rfl (.tmp 5) (.tmp 6) 44 rfl w.heap.size 48 i0 (.agg #[.int .i64 0, .int .i64 0]) 2 16 Tryz.underlying44 hi0 hz0 hz1 hz2 rfl (by decide) _ 0 [] rfl HO.out ⟨g, 0, none⟩ L.length cap (spCells L) rfl HL.out HN.out (spCells_one L) (by unfold maxLen; omega) (by omega) HB.out.size ?_; intro v8 w8 h1 h2 _ h3; have H1 := hide h1; have H2 := hide h2; clear h1 h2 h3)
  go_ret
  refine ⟨⟨_, rfl, ?_⟩, HB.out.grown H2.out HB.out.size (fun k hk => by cases hk; exact Nat.le_refl _)⟩
  have := H1.out
  rw [Nat.zero_add, List.nil_append] at this
  exact this
set_option maxRecDepth 100000 in
set_option maxHeartbeats 4000000 in
theorem indexP_any (base g cap : Nat) (L : List Spn) (p : Spn) (w : World) (hl : L.length ≤ 65536) (hp : p ∈ L) (ho : OwnQ w base (.slice (some ⟨g, 0, none⟩) L.length cap) L) :
    Calls Tryz.prog 61 #[.slice (some ⟨g, 0, none⟩) L.length cap, .agg #[.int .i64 p.1, .int .i64 p.2]] w fun e w' => (∃ i : Nat, e = .returned (.int .i64 (i : Int)) ∧ i < L.length ∧ L.getD i (0, 0) = p) ∧ Below w.heap.size w w' := by
  have X1 : Below w.heap.size w (w.alloc (.cells #[.int .i64 p.1, .int .i64 p.2] 48)) := (Below.refl _ _).alloc (Nat.le_refl _) _
  have B1 := heap_alloc_new w (.cells #[.int .i64 p.1, .int .i64 p.2] 48)
  obtain ⟨w1, hw1⟩ : ∃ w1, w1 = w.alloc (.cells #[.int .i64 p.1, .int .i64 p.2] 48) := ⟨_, rfl⟩
  rw [← hw1] at X1 B1
  have HX1 := hide X1
  have HC : Hid (∀ V, Below w1.heap.size w1 V → (V.cell? ⟨w.heap.size, 0, none⟩ = some (.int .i64 p.1) ∧ V.cell? ⟨w.heap.size, 1, none⟩ = some (.int .i64 p.2)) ∧ OwnQ V base (.slice (some ⟨g, 0, none⟩) L.length cap) L) := fun V x => by
    have Bv := (x.block _ (lt_of_block B1)).trans B1
    exact ⟨⟨by rw [cell_of_row _ _ _ _ _ _ Bv]; rfl, by rw [cell_of_row _ _ _ _ _ _ Bv]; rfl⟩, own_below ho (bt X1 x (Nat.le_refl _))⟩
  have HPM := hide hp
  clear X1 B1 ho hp
  go_enter Tryz.func61, Tryz.ntmps61
  go_upto_region 1 with fail
  rw [← hw1]
  clear hw1
  go_wp2
  go_loopg [8] (L.length + 1) (fun gg x wr => ∃ k : Nat, x = .int .i64 (k : Nat) ∧ k ≤ L.length ∧ Hid (∀ j, j < k → L.getD j (0, 0) ≠ p) ∧ Hid (Below w1.heap.size w1 wr) ∧ L.length - k < gg)
  case atStart => exact ⟨0, rfl, by omega, fun j hj => by omega, Below.refl _ _, by omega⟩
  case round =>
    obtain ⟨k, rfl, hk1, HA, XB, hg⟩ := hrel
    have HG := hide hg
    clear hg
    have hk : k < L.length := by
      apply Nat.lt_of_not_le
      intro hle
      obtain ⟨i, hi, e⟩ := List.getElem_of_mem HPM.out
      refine HA.out i (by omega) ?_
      simp [List.getD_eq_getElem?_getD, hi, e]
    have hk' : (k : Int) < (L.length : Int) := by omega
    obtain ⟨⟨c0, c1⟩, ho⟩ := HC.out wr XB.out
    obtain ⟨d0, d1, _, _⟩ := ho.cells hk
    obtain ⟨s, hs⟩ : ∃ s, Hid (s = L.getD k (0, 0)) := ⟨_, rfl⟩
    rw [← hs.out] at d0 d1
    clear ho
    have hpe : s = p ↔ (p.1 = s.1 ∧ p.2 = s.2) := ⟨fun e => by rw [e]; exact ⟨rfl, rfl⟩, fun e => Prod.ext e.1.symm e.2.symm⟩
    have HPE := hide hpe
    have HXD := hide (bt XB.out (Below.refl _ _).drew (Nat.le_refl _))
    clear hpe
    have heq := fun W => eq48 p.1 p.2 s.1 s.2 W
    generalize hbb : (p.1 == s.1 && p.2 == s.2) = bb at heq
    go_wp2
    go_region_held3 (fun V => V.cell? ⟨w.heap.size, 0, none⟩ = some (.int .i64 p.1) ∧ V.cell? ⟨w.heap.size, 1, none⟩ = some (.int .i64 p.2) ∧ V.cell? ⟨g, k * 2, none⟩ = some (.int .i64 s.1) ∧ V.cell? ⟨g, k * 2 + 1, none⟩ = some (.int .i64 s.2)) (first | assumption | exact ⟨c0, c1, d0, d1⟩ | (simp [go_sem, *]; done)) (first | fail)
    all_goals
      have hgt : L.getD k (0, 0) = s := hs.out.symm
      cases bb with
      | true =>
        have hps : s = p := by
          simp only [Bool.and_eq_true, beq_iff_eq] at hbb
          exact HPE.out.2 hbb
        have HR : Hid (L.getD k (0, 0) = p) := hgt.trans hps
        clear hgt hps hbb
        go_wp2
        go_ret
        exact ⟨⟨k, rfl, hk, HR.out⟩, bt HX1.out HXD.out (Nat.le_refl _)⟩
      | false =>
        have HN : Hid (∀ j, j < k + 1 → L.getD j (0, 0) ≠ p) := fun j hj => by
          by_cases e : j = k
          · rw [e, hgt]
            intro h
            obtain ⟨h1, h2⟩ := HPE.out.1 h
            simp [h1, h2] at hbb
          · exact HA.out j (by omega)
        clear hgt hbb
        go_wp2
        go_roundg (L.length - (k + 1) + 1)
        case measure => have := HG.out; omega
        case rel => exact ⟨k + 1, by first | rfl | go_num | (congr 1; omega), by omega, HN, HXD, by omega⟩
end Go.Proofs.YtdgoilkgplnhfaaGreat
/-
  Keys that are structs of one array: they are read as keys, and tell just their elements. Of the program its types alone: no condition.
-/
namespace Go.Proofs.YtdgoilkgplnhfaaGreat
open Go.RowKit Go.Lib Go.Maps

theorem mapM_some {α β : Type} (f : α → Option β) (g : α → β) : ∀ l : List α, (∀ x ∈ l, f x = some (g x)) → l.mapM f = some (l.map g)
  | [], _ => rfl
  | x :: l, h => by
    rw [List.mapM_cons, h x List.mem_cons_self, mapM_some f g l (fun y hy => h y (List.mem_cons_of_mem _ hy))]
    rfl
theorem size_types : Tryz.prog.types.size = 253 := by kernel_rfl
theorem cells169 : Tryz.prog.cellsOf 169 = 256 ∧ Tryz.prog.cellsOf 167 = 256 ∧ Tryz.prog.cellsOf 5 = 1 := ⟨by kernel_rfl, by kernel_rfl, by kernel_rfl⟩
theorem ktype169 : Tryz.prog.keyType 169 = true := by kernel_rfl
theorem u8_key (b : Nat) (hb : b < 256) (d : Nat) : Tryz.prog.keyLits (d + 1) 5 [.int .u8 (b : Int)] = some [.int .u8 (b : Int)] := by
  unfold Program.keyLits
  simp only [Tryz.underlying5]
  rw [if_pos (by simp [Lit.wf, IntKind.min, IntKind.max, IntKind.signed, IntKind.bits]; omega)]
theorem keyOf_leads (B : List Nat) (hl : B.length = 256) (hv : ∀ x ∈ B, x < 256) : ∃ l, keyOf Tryz.prog 169 (.agg (B.map fun (b : Nat) => Value.int .u8 (b : Int)).toArray) = some l := by
  obtain ⟨c1, c2, c3⟩ := cells169
  have hlits : ∃ ls, Tryz.prog.keyLits (Tryz.prog.types.size + 1) 169 (B.map fun (b : Nat) => Value.int .u8 (b : Int)) = some ls := by
    rw [size_types]
    unfold Program.keyLits
    simp only [Tryz.underlying169]
    have hlen : (B.map fun (b : Nat) => Value.int .u8 (b : Int)).length = 256 := by rw [List.length_map, hl]
    rw [if_pos ⟨by rw [hlen, c1], by first | (simp; done) | kernel_rfl⟩]
    have h167 : ∃ ls, Tryz.prog.keyLits 253 167 (B.map fun (b : Nat) => Value.int .u8 (b : Int)) = some ls := by
      unfold Program.keyLits
      simp only [Tryz.underlying167]
      rw [if_pos (by rw [hlen, c2]), mapM_some _ (fun i => [Lit.int .u8 ((gN B i : Nat) : Int)]) (List.range 256) (fun i hi => ?_)]
      · exact ⟨_, rfl⟩
      · have hi' : i < B.length := by rw [hl]; exact List.mem_range.1 hi
        have e : ((B.map fun (b : Nat) => Value.int .u8 (b : Int)).drop (i * Tryz.prog.cellsOf 5)).take (Tryz.prog.cellsOf 5) = [.int .u8 ((gN B i : Nat) : Int)] := by
          rw [c3, Nat.mul_one, List.drop_eq_getElem_cons (by rw [List.length_map]; exact hi'), gN_lt hi']
          simp
        rw [e]
        exact u8_key _ (by rw [gN_lt hi']; exact hv _ (List.getElem_mem hi')) 251
    obtain ⟨ls, hls⟩ := h167
    have e : ((B.map fun (b : Nat) => Value.int .u8 (b : Int)).drop 0).take (Tryz.prog.cellsOf 167) = B.map fun (b : Nat) => Value.int .u8 (b : Int) := by
      rw [List.drop_zero, c2, List.take_of_length_le (by rw [hlen]; exact Nat.le_refl _)]
    simp only [List.mapM_cons, List.mapM_nil, e, hls]
    exact ⟨_, rfl⟩
  obtain ⟨ls, hls⟩ := hlits
  unfold keyOf
  simp only [Tryz.underlying169]
  rw [if_pos (by
    rw [ktype169]
    simp [Value.formed, Tryz.underlying169, c1, hl])]
  have e : (Value.agg (B.map fun (b : Nat) => Value.int .u8 (b : Int)).toArray).cells.toList = B.map fun (b : Nat) => Value.int .u8 (b : Int) := by simp [Value.cells]
  rw [e, hls]
  exact ⟨_, rfl⟩
theorem keyed169 : Keyed Tryz.prog 169 := Keyed.of_law (deep_law_laid (m := 254) (by kernel_rfl) (by decide) (by rw [size_types]; decide) (by kernel_rfl) (by simp [Tryz.underlying169]))
end Go.Proofs.YtdgoilkgplnhfaaGreat
/-
  Keys that are structs of one array of bools: they are read as keys, and tell just their elements. Of the program its types alone: no condition.
-/
namespace Go.Proofs.YtdgoilkgplnhfaaGreat
open Go.RowKit Go.Lib Go.Maps

theorem cells73 : Tryz.prog.cellsOf 73 = 64 ∧ Tryz.prog.cellsOf 71 = 64 ∧ Tryz.prog.cellsOf 4 = 1 := ⟨by kernel_rfl, by kernel_rfl, by kernel_rfl⟩
theorem ktype73 : Tryz.prog.keyType 73 = true := by kernel_rfl
theorem bool_key (b : Bool) (d : Nat) : Tryz.prog.keyLits (d + 1) 4 [.bool b] = some [.bool b] := by
  unfold Program.keyLits
  simp only [Tryz.underlying4]
theorem keyOf_taking (B : List Bool) (hl : B.length = 64) : ∃ l, keyOf Tryz.prog 73 (.agg (B.map fun (b : Bool) => Value.bool b).toArray) = some l := by
  obtain ⟨c1, c2, c3⟩ := cells73
  have hlits : ∃ ls, Tryz.prog.keyLits (Tryz.prog.types.size + 1) 73 (B.map fun (b : Bool) => Value.bool b) = some ls := by
    rw [size_types]
    unfold Program.keyLits
    simp only [Tryz.underlying73]
    have hlen : (B.map fun (b : Bool) => Value.bool b).length = 64 := by rw [List.length_map, hl]
    rw [if_pos ⟨by rw [hlen, c1], by first | (simp; done) | kernel_rfl⟩]
    have h71 : ∃ ls, Tryz.prog.keyLits 253 71 (B.map fun (b : Bool) => Value.bool b) = some ls := by
      unfold Program.keyLits
      simp only [Tryz.underlying71]
      rw [if_pos (by rw [hlen, c2]), mapM_some _ (fun i => [Lit.bool (B.getD i false)]) (List.range 64) (fun i hi => ?_)]
      · exact ⟨_, rfl⟩
      · have hi' : i < B.length := by rw [hl]; exact List.mem_range.1 hi
        have e : ((B.map fun (b : Bool) => Value.bool b).drop (i * Tryz.prog.cellsOf 4)).take (Tryz.prog.cellsOf 4) = [.bool (B.getD i false)] := by
          rw [c3, Nat.mul_one, List.drop_eq_getElem_cons (by rw [List.length_map]; exact hi')]
          simp [List.getD_eq_getElem?_getD, hi']
        rw [e]
        exact bool_key _ 251
    obtain ⟨ls, hls⟩ := h71
    have e : ((B.map fun (b : Bool) => Value.bool b).drop 0).take (Tryz.prog.cellsOf 71) = B.map fun (b : Bool) => Value.bool b := by
      rw [List.drop_zero, c2, List.take_of_length_le (by rw [hlen]; exact Nat.le_refl _)]
    simp only [List.mapM_cons, List.mapM_nil, e, hls]
    exact ⟨_, rfl⟩
  obtain ⟨ls, hls⟩ := hlits
  unfold keyOf
  simp only [Tryz.underlying73]
  rw [if_pos (by
    rw [ktype73]
    simp [Value.formed, Tryz.underlying73, c1, hl])]
  have e : (Value.agg (B.map fun (b : Bool) => Value.bool b).toArray).cells.toList = B.map fun (b : Bool) => Value.bool b := by simp [Value.cells]
  rw [e, hls]
  exact ⟨_, rfl⟩
theorem keyed73 : Keyed Tryz.prog 73 := Keyed.of_law (deep_law_laid (m := 254) (by kernel_rfl) (by decide) (by rw [size_types]; decide) (by kernel_rfl) (by simp [Tryz.underlying73]))
end Go.Proofs.YtdgoilkgplnhfaaGreat
/-
  Keys that are pairs of numbers: they are read as keys, and tell just both. Of the program its types alone: no condition.
-/
namespace Go.Proofs.YtdgoilkgplnhfaaGreat
open Go.RowKit Go.Lib Go.Maps

/-- A pair. -/
def prV (p : Nat × Nat) : Array Value := #[.int .i64 (p.1 : Int), .int .i64 (p.2 : Int)]
theorem prV_size (p : Nat × Nat) : (prV p).size = 2 := rfl
theorem prV_all (p : Nat × Nat) : (prV p).all (·.oneCell') = true := by simp [prV, Value.oneCell']
theorem prV_inj {p q : Nat × Nat} (h : prV p = prV q) : p = q := by
  simp only [prV, Array.mk.injEq, List.cons.injEq, Value.int.injEq] at h
  obtain ⟨h1, h2, _⟩ := h
  apply Prod.ext <;> omega
theorem Tryz.info101 : (Tryz.prog.info? 101).map (fun i => (i.zero, i.size)) = some (some (.agg #[.int .i64 0, .int .i64 0]), 2) := by kernel_rfl
theorem Tryz.info101b : (Tryz.prog.info? 101).map (fun i => (i.zero, i.size, i.bytes)) = some (some (.agg #[.int .i64 0, .int .i64 0]), 2, 16) := by kernel_rfl
theorem cells101 : Tryz.prog.cellsOf 101 = 2 ∧ Tryz.prog.cellsOf 3 = 1 := ⟨by kernel_rfl, by kernel_rfl⟩
theorem ktype101 : Tryz.prog.keyType 101 = true := by kernel_rfl
theorem i64_key (n : Nat) (hn : n ≤ 4294967296) (d : Nat) : Tryz.prog.keyLits (d + 1) 3 [.int .i64 (n : Int)] = some [.int .i64 (n : Int)] := by
  unfold Program.keyLits
  simp only [Tryz.underlying3]
  rw [if_pos (by simp [Lit.wf, IntKind.min, IntKind.max, IntKind.signed, IntKind.bits]; omega)]
theorem keyOf_pair (p : Nat × Nat) (h1 : p.1 ≤ 4294967296) (h2 : p.2 ≤ 4294967296) : ∃ l, keyOf Tryz.prog 101 (.agg (prV p)) = some l := by
  obtain ⟨c1, c3⟩ := cells101
  have hlits : ∃ ls, Tryz.prog.keyLits (Tryz.prog.types.size + 1) 101 [.int .i64 (p.1 : Int), .int .i64 (p.2 : Int)] = some ls := by
    rw [size_types]
    unfold Program.keyLits
    simp only [Tryz.underlying101]
    rw [if_pos ⟨by rw [c1]; rfl, by first | (simp; done) | kernel_rfl⟩]
    simp only [List.mapM_cons, List.mapM_nil, c3]
    have e1 : (([.int .i64 (p.1 : Int), .int .i64 (p.2 : Int)] : List Value).drop 0).take 1 = [.int .i64 (p.1 : Int)] := rfl
    have e2 : (([.int .i64 (p.1 : Int), .int .i64 (p.2 : Int)] : List Value).drop 1).take 1 = [.int .i64 (p.2 : Int)] := rfl
    simp only [e1, e2, i64_key _ h1, i64_key _ h2]
    exact ⟨_, rfl⟩
  obtain ⟨ls, hls⟩ := hlits
  unfold keyOf
  simp only [Tryz.underlying101]
  rw [if_pos (by
    rw [ktype101]
    simp [Value.formed, Tryz.underlying101, c1, prV])]
  have e : (Value.agg (prV p)).cells.toList = [.int .i64 (p.1 : Int), .int .i64 (p.2 : Int)] := rfl
  rw [e, hls]
  exact ⟨_, rfl⟩
theorem keyed101 : Keyed Tryz.prog 101 := Keyed.of_law (deep_law_laid (m := 254) (by kernel_rfl) (by decide) (by rw [size_types]; decide) (by kernel_rfl) (by simp [Tryz.underlying101]))
theorem lit101_ex : ∃ lit : Nat × Nat → Lit, ∀ p : Nat × Nat, p.1 ≤ 4294967296 → p.2 ≤ 4294967296 → keyOf Tryz.prog 101 (.agg (prV p)) = some (lit p) := by
  classical
  refine ⟨fun p => if h : p.1 ≤ 4294967296 ∧ p.2 ≤ 4294967296 then (keyOf_pair p h.1 h.2).choose else .bool false, fun p h1 h2 => ?_⟩
  simp only [dif_pos (And.intro h1 h2)]
  exact (keyOf_pair p h1 h2).choose_spec
end Go.Proofs.YtdgoilkgplnhfaaGreat
/-
  The functions that Join hands on, by their contracts. Condition: both automata may be.
-/
namespace Go.Proofs.YtdgoilkgplnhfaaGreat
open Go.RowKit Go.Lib Go.Maps

theorem stepA_any {bs : By} {NX OU : List Nat} (na oa : Option Addr) (nc oc s q : Nat) (w : World) (hM : MayA bs NX OU) (hs : s < OU.length) (hq : q < 256) (hat : NAt w na NX) :
    Calls Tryz.prog 58 #[.agg #[.string ⟨bs.toArray⟩, .slice na NX.length nc, .slice oa OU.length oc], .int .i64 (s : Nat), .int .i64 (q : Nat)] w fun e w' => e = .returned (.int .i64 (((dfA bs NX OU).step s q : Nat) : Int)) ∧ Below w.heap.size w w' := by
  have qA : q < bs.length := by rw [hM.bl]; exact hq
  have hn := hM.nxl
  have hi := hM.at hs (hM.bw q hq)
  have := step_any bs na oa nc oc OU.length s q (NX.length / OU.length) (bs.getD q 0).toNat NX w (by omega) hM.n0 rfl qA (by simp [List.getD_eq_getElem?_getD, qA]) hi hat
  rw [← gN_lt hi] at this
  exact this
/-- A pair that is written into a new block. -/
theorem put2 {w : World} (V : World) (g : Nat) (x : Below w.heap.size w V) (b : V.heap[g]? = some (.cells #[.int .i64 0, .int .i64 0] 101 (0, 0))) (u v : Int) (hg : w.heap.size ≤ g) :
    (((V.setCell ⟨g, 0, none⟩ (.int .i64 u)).setCell ⟨g, 1, none⟩ (.int .i64 v)).drew).heap[g]? = some (.cells #[.int .i64 u, .int .i64 v] 101 (0, 0)) ∧ Below w.heap.size w (((V.setCell ⟨g, 0, none⟩ (.int .i64 u)).setCell ⟨g, 1, none⟩ (.int .i64 v)).drew) := by
  have k1 : Kept (fun i => i = g) V (V.setCell ⟨g, 0, none⟩ (.int .i64 u)) := Kept.setCell (F := fun i => i = g) (p := ⟨g, 0, none⟩) (Kept.refl _ _) rfl _
  have k2 : Kept (fun i => i = g) V ((V.setCell ⟨g, 0, none⟩ (.int .i64 u)).setCell ⟨g, 1, none⟩ (.int .i64 v)) := Kept.setCell (F := fun i => i = g) (p := ⟨g, 1, none⟩) k1 rfl _
  refine ⟨?_, (x.trans (k2.below x.size (fun i hi => by omega))).drew⟩
  exact block_setCell (block_setCell b 0 (.int .i64 u)) 1 (.int .i64 v)
set_option maxRecDepth 100000 in
set_option maxHeartbeats 4000000 in
theorem join1_any (b p0 p1 : Nat) (bsA bsB : By) (w : World) (hb : b < 256) (hA : bsA.length = 256) (hB : bsB.length = 256) (h0 : w.cell? ⟨p0, 0, none⟩ = some (.string ⟨bsA.toArray⟩)) (h1 : w.cell? ⟨p1, 0, none⟩ = some (.string ⟨bsB.toArray⟩)) (l0 : p0 < w.heap.size) (l1 : p1 < w.heap.size) :
    Calls Tryz.prog 55 #[.int .i64 (b : Nat), .pointer (some ⟨p0, 0, none⟩), .pointer (some ⟨p1, 0, none⟩)] w fun e w' => e = .returned (.agg (prV ((bsA.getD b 0).toNat, (bsB.getD b 0).toNat))) ∧ Below w.heap.size w w' := by
  have hbA : b < bsA.length := by omega
  have hbB : b < bsB.length := by omega
  have eA : bsA.getD b 0 = bsA[b] := by simp [List.getD_eq_getElem?_getD, hbA]
  have eB : bsB.getD b 0 = bsB[b] := by simp [List.getD_eq_getElem?_getD, hbB]
  rw [eA, eB]
  obtain ⟨x, hx⟩ : ∃ x, bsA[b] = x := ⟨_, rfl⟩
  obtain ⟨y, hy⟩ : ∃ y, bsB[b] = y := ⟨_, rfl⟩
  have gx : ∀ hk, (⟨bsA.toArray⟩ : ByteArray)[b]'hk = x := fun _ => hx
  have gy : ∀ hk, (⟨bsB.toArray⟩ : ByteArray)[b]'hk = y := fun _ => hy
  rw [hx, hy]
  clear eA eB hx hy
  have hA' : (b : Int) < (bsA.length : Int) := by omega
  have hB' : (b : Int) < (bsB.length : Int) := by omega
  have wx : IntKind.i64.wrap ((x.toNat : Nat) : Int) = ((x.toNat : Nat) : Int) := by have := x.toNat_lt; simp [IntKind.wrap, IntKind.bits, IntKind.signed]; omega
  have wy : IntKind.i64.wrap ((y.toNat : Nat) : Int) = ((y.toNat : Nat) : Int) := by have := y.toNat_lt; simp [IntKind.wrap, IntKind.bits, IntKind.signed]; omega
  have X1 : Below w.heap.size w (w.alloc (.cells #[.int .i64 0, .int .i64 0] 101)) := al (Below.refl _ _) _
  have B1 := heap_alloc_new w (.cells #[.int .i64 0, .int .i64 0] 101)
  have c0 := (X1.cell (p := ⟨p0, 0, none⟩) l0).trans h0
  have c1 := (X1.cell (p := ⟨p1, 0, none⟩) l1).trans h1
  obtain ⟨w1, hw1⟩ : ∃ w1, w1 = w.alloc (.cells #[.int .i64 0, .int .i64 0] 101) := ⟨_, rfl⟩
  rw [← hw1] at X1 B1 c0 c1
  have HB1 := hide B1
  have HX1 := hide X1
  have d0 := cell_of_row _ _ 0 _ _ _ B1
  have d1 := cell_of_row _ _ 1 _ _ _ B1
  have f0 := frozen_of_row _ _ 0 _ _ B1
  have f1 := frozen_of_row _ _ 1 _ _ B1
  have HPUT := hide (fun V x b u v => put2 (w := w) V w.heap.size x b u v (Nat.le_refl _))
  clear X1 B1 h0 h1
  unfold prV
  go_enter Tryz.func55, Tryz.ntmps55
  go_upto_region 1 with fail
  rw [← hw1]
  clear hw1
  go_region_held3 (fun V => V.cell? ⟨p0, 0, none⟩ = some (.string ⟨bsA.toArray⟩) ∧ V.cell? ⟨p1, 0, none⟩ = some (.string ⟨bsB.toArray⟩)) (first | assumption | exact ⟨c0, c1⟩ | (simp [go_sem, *]; done)) (first | fail)
  all_goals
    go_wp2
    obtain ⟨z1, z2⟩ := HPUT.out w1 HX1.out HB1.out (x.toNat : Int) (y.toNat : Int)
    have HI : (Tryz.prog.info? 101).map (·.size) = some (#[Value.int .i64 (x.toNat : Int), Value.int .i64 (y.toNat : Int)] : Array Value).size := by rw [(zero_of_info Tryz.info101).2]; rfl
    refine bodyPost_ret (v := .agg #[.int .i64 (x.toNat : Int), .int .i64 (y.toNat : Int)]) (results_cell_row rfl _ _ w.heap.size 101 #[.int .i64 (x.toNat : Int), .int .i64 (y.toNat : Int)] (0, 0) _ rfl z1 Tryz.underlying101 rfl HI) rfl ?_
    exact ⟨rfl, z2⟩
set_option maxRecDepth 100000 in
set_option maxHeartbeats 8000000 in
theorem join2_any (s1 s2 c q p0 p1 p2 : Nat) (bsA bsB : By) (xA oA xB oB fa : Option Addr) (xAc oAc xBc oBc fc : Nat) (NA OA NB OB fst : List Nat) (w : World) (hA : MayA bsA NA OA) (hB : MayA bsB NB OB) (h1 : s1 < OA.length) (h2 : s2 < OB.length) (hq : fst[c]? = some q) (hqb : q < 256)
    (kA : NAt w xA NA) (kB : NAt w xB NB) (kf : NAt w fa fst)
    (a0 : w.cell? ⟨p0, 0, none⟩ = some (.string ⟨bsA.toArray⟩) ∧ w.cell? ⟨p0, 1, none⟩ = some (.slice xA NA.length xAc) ∧ w.cell? ⟨p0, 2, none⟩ = some (.slice oA OA.length oAc))
    (b0 : w.cell? ⟨p2, 0, none⟩ = some (.string ⟨bsB.toArray⟩) ∧ w.cell? ⟨p2, 1, none⟩ = some (.slice xB NB.length xBc) ∧ w.cell? ⟨p2, 2, none⟩ = some (.slice oB OB.length oBc))
    (f0 : w.cell? ⟨p1, 0, none⟩ = some (.slice fa fst.length fc)) (l0 : p0 < w.heap.size) (l1 : p1 < w.heap.size) (l2 : p2 < w.heap.size) :
    Calls Tryz.prog 57 #[.agg (prV (s1, s2)), .int .i64 (c : Nat), .pointer (some ⟨p0, 0, none⟩), .pointer (some ⟨p1, 0, none⟩), .pointer (some ⟨p2, 0, none⟩)] w fun e w' => e = .returned (.agg (prV ((dfA bsA NA OA).step s1 q, (dfA bsB NB OB).step s2 q))) ∧ Below w.heap.size w w' := by
  obtain ⟨hc, hcq⟩ := List.getElem?_eq_some_iff.1 hq
  obtain ⟨fb, fo, rfl, hfb, cf⟩ := kf.get hc
  rw [hcq] at cf
  have hc' : (c : Int) < (fst.length : Int) := by omega
  have qA : q < bsA.length := by rw [hA.bl]; exact hqb
  have qB : q < bsB.length := by rw [hB.bl]; exact hqb
  have X2 : Below w.heap.size w ((w.alloc (.cells #[.int .i64 (s1 : Int), .int .i64 (s2 : Int)] 101)).alloc (.cells #[.int .i64 0, .int .i64 0] 101)) := al (al (Below.refl _ _) _) _
  obtain ⟨_, B1, B2, hs2⟩ := two_alloc' w #[.int .i64 (s1 : Int), .int .i64 (s2 : Int)] #[.int .i64 0, .int .i64 0] 101 101
  obtain ⟨w2, hw2⟩ : ∃ w2, w2 = (w.alloc (.cells #[.int .i64 (s1 : Int), .int .i64 (s2 : Int)] 101)).alloc (.cells #[.int .i64 0, .int .i64 0] 101) := ⟨_, rfl⟩
  rw [← hw2] at X2 B1 B2 hs2
  have hAn := hA.nxl
  have hBn := hB.nxl
  obtain ⟨uA, huA⟩ : ∃ uA, uA = (dfA bsA NA OA).step s1 q := ⟨_, rfl⟩
  obtain ⟨uB, huB⟩ : ∃ uB, uB = (dfA bsB NB OB).step s2 q := ⟨_, rfl⟩
  have HA : Hid (∀ V, Below w2.heap.size w2 V → Calls Tryz.prog 58 #[.agg #[.string ⟨bsA.toArray⟩, .slice xA NA.length xAc, .slice oA OA.length oAc], .int .i64 (s1 : Nat), .int .i64 (q : Nat)] V fun e w' => e = .returned (.int .i64 (uA : Int)) ∧ Below w2.heap.size w2 w') := fun V x => by
    have := stepA_any xA oA xAc oAc s1 q V hA h1 hqb (kA.below (bt X2 x (Nat.le_refl _)))
    rw [← huA] at this
    exact this.mono fun e w' ⟨h, y⟩ => ⟨h, bt x y (Nat.le_refl _)⟩
  have HB : Hid (∀ V, Below w2.heap.size w2 V → Calls Tryz.prog 58 #[.agg #[.string ⟨bsB.toArray⟩, .slice xB NB.length xBc, .slice oB OB.length oBc], .int .i64 (s2 : Nat), .int .i64 (q : Nat)] V fun e w' => e = .returned (.int .i64 (uB : Int)) ∧ Below w2.heap.size w2 w') := fun V x => by
    have := stepA_any xB oB xBc oBc s2 q V hB h2 hqb (kB.below (bt X2 x (Nat.le_refl _)))
    rw [← huB] at this
    exact this.mono fun e w' ⟨h, y⟩ => ⟨h, bt x y (Nat.le_refl _)⟩
  have lB := lt_of_block B1
  have HSK : Hid (∀ V V', Below w2.heap.size w2 V → Kept (fun i => i = w.heap.size + 1) V V' → (V'.cell? ⟨p0, 0, none⟩ = some (.string ⟨bsA.toArray⟩) ∧ V'.cell? ⟨p0, 1, none⟩ = some (.slice xA NA.length xAc) ∧ V'.cell? ⟨p0, 2, none⟩ = some (.slice oA OA.length oAc)) ∧ (V'.cell? ⟨p2, 0, none⟩ = some (.string ⟨bsB.toArray⟩) ∧ V'.cell? ⟨p2, 1, none⟩ = some (.slice xB NB.length xBc) ∧ V'.cell? ⟨p2, 2, none⟩ = some (.slice oB OB.length oBc)) ∧ V'.cell? ⟨p1, 0, none⟩ = some (.slice (some ⟨fb, fo, none⟩) fst.length fc) ∧ V'.cell? ⟨fb, fo + c, none⟩ = some (.int .i64 (q : Int)) ∧ V'.cell? ⟨w.heap.size, 0, none⟩ = some (.int .i64 (s1 : Int)) ∧ V'.cell? ⟨w.heap.size, 1, none⟩ = some (.int .i64 (s2 : Int))) := fun V V' x k => by
    have y := bt X2 x (Nat.le_refl _)
    have kc : ∀ {p : Addr}, p.block < w.heap.size → V'.cell? p = w.cell? p := fun {p} hp => by
      have hp2 : p.block < V.heap.size := Nat.lt_of_lt_of_le hp y.size
      exact (k.cell hp2 (by omega)).trans (y.cell hp)
    have Bv := (k.block _ (Nat.lt_of_lt_of_le lB x.size) (by omega)).trans ((x.block _ lB).trans B1)
    exact ⟨⟨(kc (p := ⟨p0, 0, none⟩) l0).trans a0.1, (kc (p := ⟨p0, 1, none⟩) l0).trans a0.2.1, (kc (p := ⟨p0, 2, none⟩) l0).trans a0.2.2⟩, ⟨(kc (p := ⟨p2, 0, none⟩) l2).trans b0.1, (kc (p := ⟨p2, 1, none⟩) l2).trans b0.2.1, (kc (p := ⟨p2, 2, none⟩) l2).trans b0.2.2⟩, (kc (p := ⟨p1, 0, none⟩) l1).trans f0, (kc (p := ⟨fb, fo + c, none⟩) hfb).trans cf, by rw [cell_of_row _ _ _ _ _ _ Bv]; rfl, by rw [cell_of_row _ _ _ _ _ _ Bv]; rfl⟩
  have HS : Hid (∀ V, Below w2.heap.size w2 V → (V.cell? ⟨p0, 0, none⟩ = some (.string ⟨bsA.toArray⟩) ∧ V.cell? ⟨p0, 1, none⟩ = some (.slice xA NA.length xAc) ∧ V.cell? ⟨p0, 2, none⟩ = some (.slice oA OA.length oAc)) ∧ (V.cell? ⟨p2, 0, none⟩ = some (.string ⟨bsB.toArray⟩) ∧ V.cell? ⟨p2, 1, none⟩ = some (.slice xB NB.length xBc) ∧ V.cell? ⟨p2, 2, none⟩ = some (.slice oB OB.length oBc)) ∧ V.cell? ⟨p1, 0, none⟩ = some (.slice (some ⟨fb, fo, none⟩) fst.length fc) ∧ V.cell? ⟨fb, fo + c, none⟩ = some (.int .i64 (q : Int)) ∧ V.cell? ⟨w.heap.size, 0, none⟩ = some (.int .i64 (s1 : Int)) ∧ V.cell? ⟨w.heap.size, 1, none⟩ = some (.int .i64 (s2 : Int))) := fun V x => HSK.out V V x (Kept.refl _ _)
  have HST : Hid (∀ V u v, Below w2.heap.size w2 V → Kept (fun i => i = w.heap.size + 1) V ((V.setCell ⟨w.heap.size + 1, 0, none⟩ u).setCell ⟨w.heap.size + 1, 1, none⟩ v)) := fun V u v x => Kept.setCell (F := fun i => i = w.heap.size + 1) (p := ⟨w.heap.size + 1, 1, none⟩) (Kept.setCell (F := fun i => i = w.heap.size + 1) (p := ⟨w.heap.size + 1, 0, none⟩) (Kept.refl _ _) rfl _) rfl _
  have HZC : Hid (∀ V, Below w2.heap.size w2 V → V.cell? ⟨w.heap.size + 1, 0, none⟩ = some (.int .i64 0) ∧ V.cell? ⟨w.heap.size + 1, 1, none⟩ = some (.int .i64 0) ∧ V.frozen? ⟨w.heap.size + 1, 0, none⟩ = false ∧ V.frozen? ⟨w.heap.size + 1, 1, none⟩ = false) := fun V x => by
    have Bv := (x.block _ (lt_of_block B2)).trans B2
    exact ⟨by rw [cell_of_row _ _ _ _ _ _ Bv]; rfl, by rw [cell_of_row _ _ _ _ _ _ Bv]; rfl, frozen_of_row _ _ _ _ _ Bv, frozen_of_row _ _ _ _ _ Bv⟩
  have HPUT := hide (fun V x b u v => put2 (w := w) V (w.heap.size + 1) x b u v (by omega))
  have HZ : Hid (∀ V, Below w2.heap.size w2 V → V.heap[w.heap.size + 1]? = some (.cells #[.int .i64 0, .int .i64 0] 101 (0, 0)) ∧ Below w.heap.size w V) := fun V x => ⟨(x.block _ (lt_of_block B2)).trans B2, bt X2 x (Nat.le_refl _)⟩
  obtain ⟨⟨g0, g1, g2⟩, ⟨g3, g4, g5⟩, g6, g7, g8, g9⟩ := HS.out w2 (Below.refl _ _)
  rw [← huA, ← huB]
  clear B1 B2 X2 a0 b0 f0 l0 l1 l2 huA huB kA kB kf cf hq hcq hA hB
  unfold prV
  go_enter Tryz.func57, Tryz.ntmps57
  go_upto_region 1 with fail
  rw [← hw2]
  clear hw2
  go_region_held3 (fun V => (V.cell? ⟨p0, 0, none⟩ = some (.string ⟨bsA.toArray⟩) ∧ V.cell? ⟨p0, 1, none⟩ = some (.slice xA NA.length xAc) ∧ V.cell? ⟨p0, 2, none⟩ = some (.slice oA OA.length oAc)) ∧ (V.cell? ⟨p2, 0, none⟩ = some (.string ⟨bsB.toArray⟩) ∧ V.cell? ⟨p2, 1, none⟩ = some (.slice xB NB.length xBc) ∧ V.cell? ⟨p2, 2, none⟩ = some (.slice oB OB.length oBc)) ∧ V.cell? ⟨p1, 0, none⟩ = some (.slice (some ⟨fb, fo, none⟩) fst.length fc) ∧ V.cell? ⟨fb, fo + c, none⟩ = some (.int .i64 (q : Int)) ∧ V.cell? ⟨w.heap.size, 0, none⟩ = some (.int .i64 (s1 : Int)) ∧ V.cell? ⟨w.heap.size, 1, none⟩ = some (.int .i64 (s2 : Int))) (first | assumption | exact HS.out _ (Below.refl _ _).drew | exact HS.out _ YA.out | exact HS.out _ YB.out | exact HSK.out _ _ YA.out (HST.out _ _ _ YA.out) | exact HSK.out _ _ YB.out (HST.out _ _ _ YB.out))
    (first
      | (go_at_call_of 58 (Value.slice xA NA.length xAc); (first | (refine (HA.out _ (Below.refl _ _).drew).mono ?_) | (refine (HA.out _ YB.out).mono ?_)); rintro e wA ⟨rfl, xA'⟩; have YA := hide xA'; obtain ⟨zA0, zA1, zA2, zA3⟩ := HZC.out wA xA'; clear xA')
      | (go_at_call_of 58 (Value.slice xB NB.length xBc); (first | (refine (HB.out _ (Below.refl _ _).drew).mono ?_) | (refine (HB.out _ YA.out).mono ?_)); rintro e wB ⟨rfl, xB'⟩; have YB := hide xB'; obtain ⟨zB0, zB1, zB2, zB3⟩ := HZC.out wB xB'; clear xB'))
  go_wp2
  obtain ⟨y1, y2⟩ := HZ.out wB YB.out
  obtain ⟨z1, _⟩ := HPUT.out wB y2 y1 (uA : Int) (uB : Int)
  have HI : (Tryz.prog.info? 101).map (·.size) = some (#[Value.int .i64 (uA : Int), Value.int .i64 (uB : Int)] : Array Value).size := by rw [(zero_of_info Tryz.info101).2]; rfl
  have hb := y2.trans ((HST.out wB (.int .i64 (uA : Int)) (.int .i64 (uB : Int)) YB.out).below y2.size (fun i hi => by omega))
  refine bodyPost_ret (v := .agg #[.int .i64 (uA : Int), .int .i64 (uB : Int)]) (results_cell_row rfl _ _ (w.heap.size + 1) 101 #[.int .i64 (uA : Int), .int .i64 (uB : Int)] (0, 0) _ rfl z1 Tryz.underlying101 rfl HI) rfl ?_
  exact ⟨rfl, hb⟩
end Go.Proofs.YtdgoilkgplnhfaaGreat
