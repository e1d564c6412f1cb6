/-
  Things numbered by looks that are structs of bytes. Condition: at most 2^32 things.
-/
import Derived.Test.YtdgoilkgplnhfaaGreatB22
import Derived.Deep.WholeRow
import Derived.Laws.CopyOwn
namespace Go.Proofs.YtdgoilkgplnhfaaGreat
open Go.RowKit Go.Lib Go.Maps

theorem Tryz.info169 : (Tryz.prog.info? 169).map (fun i => (i.zero, i.size)) = some (some (.agg (Array.replicate 256 (Value.int .u8 0))), 256) := by kernel_rfl
set_option maxRecDepth 100000 in
set_option maxHeartbeats 4000000 in
theorem numL_any (N : Nat) (c0 c1 : Value) (look : Nat → Array Value) (lit : Nat → Lit) (w : World) (hN : N ≤ 4294967296) (hk : ∀ i, i < N → keyOf Tryz.prog 169 (.agg (look i)) = some (lit i)) (hls : ∀ i, i < N → (look i).size = 256) (hla : ∀ i, i < N → (look i).all (·.oneCell') = true) (hkl : ∀ i, i < N → WideAt.IsKeyLit (lit i))
    (hc : ∀ i, i < N → ∀ W, Below w.heap.size w W → Calls Tryz.prog 119 #[.int .i64 (i : Nat), c0, c1] W fun e w' => e = .returned (.agg (look i)) ∧ Below W.heap.size W w') :
    Calls Tryz.prog 118 #[.int .i64 (N : Nat), .func (.func 119) #[] #[c0, c1]] w fun e w' => (∃ v1 v2, e = .returned (.tuple #[v1, v2]) ∧ ∃ num fst, NmDone w.heap.size lit N v1 v2 num fst w') ∧ Below w.heap.size w w' := by
  obtain ⟨i3, hi3, hz30, hz31, hz32⟩ := info_parts Tryz.info3n
  have hz0 : ∀ W, (zeroValue 3).run Tryz.prog W = .ok (.int .i64 0) W := fun W => Tryz.zeroValue3 W
  have hmm : ∀ W : World, (Instr.makeMap 191 none).run Tryz.prog W = .ok (.map (some W.heap.size)) (W.alloc (.map #[] 0)) := fun W => rfl
  have HC := hide hc
  have HK := hide hk
  have HKL := hide hkl
  have HLS := hide hls
  have HLA := hide hla
  obtain ⟨hzv, hsz⟩ := zero_of_info Tryz.info169
  obtain ⟨z, hz⟩ : ∃ z, z = (Array.replicate 256 (Value.int .u8 0)) := ⟨_, rfl⟩
  have hzs : z.size = 256 := by rw [hz]; simp
  rw [← hz] at hzv
  have HZS := hide hzs
  have HSZ := hide hsz
  clear hz hzs hsz hls hla
  clear hc hk hkl
  have S0 := hide (fun w2 h1 h2 => NmS.start 169 w lit N w2 h1 h2)
  go_enter Tryz.func118, Tryz.ntmps118
  go_wp2_with (at_make; refine wpList_make_full _ rfl (.tmp 12) (.tmp 12) 22 rfl w.heap.size 3 i3 (.int .i64 0) 1 Tryz.underlying22 hi3 hz30 hz31 .i64 .i64 _ _ N rfl rfl rfl rfl (by rw [hz32]; omega) (by unfold maxLen; omega) (by simp) ?_; intro w2 h1 h2; have S1 := hide (S0.out w2 h1 h2); clear h1 h2)
  go_loopg [5, 15] (N + 1) (fun g v2 x wr => ∃ (num fst : List Nat), x = .int .i64 (num.length : Nat) ∧ Hid (NmS 169 w lit N w.heap.size (.slice (some ⟨w.heap.size + 1, 0, none⟩) N N) v2 num fst wr) ∧ N - num.length < g)
  case atStart => exact ⟨[], [], rfl, S1, by simp⟩
  case round =>
    obtain ⟨num, fst, rfl, S, hg⟩ := hrel
    have HG := hide hg
    clear hg S1 S0
    have hle := S.out.le
    obtain ⟨a2, k2, hv2, _⟩ := own_shape S.out.o2
    subst hv2
    by_cases hi : num.length < N
    · have hi' : (num.length : Int) < (N : Int) := by omega
      have H1 := hide (HC.out num.length hi wr S.out.bel)
      go_wp2_with (fail)
      refine H1.out.mono ?_
      rintro e w3 ⟨rfl, x3⟩
      clear H1
      obtain ⟨m, hmm2⟩ : ∃ m, m = look num.length := ⟨_, rfl⟩
      have HI : Hid ((Tryz.prog.info? 169).map (·.size) = some m.size) := by unfold Hid; rw [HSZ.out, hmm2, HLS.out _ hi]
      have HZ2 : Hid (z.size = m.size) := by unfold Hid; rw [HZS.out, hmm2, HLS.out _ hi]
      have HAL : Hid (m.all (·.oneCell') = true) := by unfold Hid; rw [hmm2]; exact HLA.out _ hi
      have HK0 := HK.out num.length hi
      rw [← hmm2] at HK0 ⊢
      have HBZ := hide (heap_alloc_new w3 (.cells z 169))
      have HBM := heap_alloc_new w3 (.cells m 169)
      have y3 : Below w3.heap.size w3 (w3.alloc (.cells m 169)) := al (Below.refl _ _) _
      have S4 := S.out.below (bt x3 y3 (Nat.le_refl _))
      have bb3 : ∃ bb, bb = w3.heap.size := ⟨_, rfl⟩
      clear hmm2 x3 y3
      go_upto_region 7 with (refine wpList_store_row rfl 169 (.tmp 8) (.tmp 20) rfl w3.heap.size m rfl rfl 169 z HBZ.out HI.out HZ2.out HAL.out ?_; rw [World.setRow_alloc_new])
      generalize w3.alloc (.cells m 169) = w5 at *
      obtain ⟨bb, hbb⟩ := bb3
      rw [← hbb] at HBM ⊢
      clear hbb HBZ
      have HBM := hide HBM
      rename World => w3
      have S3 := hide S4
      clear S4
      obtain ⟨D, hown, hh, ha⟩ := S3.out.map
      have HK1 := hide HK0
      clear HK0
      have HOWN := hide hown
      have HA := hide ha
      have hfl : fst.length ≤ num.length := by
        have h := S3.out.nf
        exact pigeon num.length fst.length (gN fst) h.fstlt (fun i h1 j h2 e => by rw [← h.numfst i h1, ← h.numfst j h2, e])
      by_cases hm : lit num.length ∈ fst.map lit
      · have hhas : Maps.has D (lit num.length) = true := (hh _).2 hm
        have HHIT : Hid (∀ c : Int, D.atKey (lit num.length) (.lit (.int .i64 0)) = .lit (.int .i64 c) → ∃ n, n < fst.length ∧ lit (gN fst n) = lit num.length ∧ c = (n : Int)) := fun c hc => by
          obtain ⟨n, hn, e, rfl⟩ := atKey_lit HA.out hc hm
          rw [List.length_map] at hn
          refine ⟨n, hn, ?_, rfl⟩
          rw [← e, List.getElem_map, gN_lt hn]
        obtain ⟨⟨u1, q1⟩, q2⟩ := S3.out.slot hi
        have HST := hide (fun n hn he => S3.out.hit (n := n) hi hn he)
        go_wp2_with (first | (refine wpList_load_row rfl 169 (.tmp 8) rfl bb rfl 169 m (0, 0) _ HBM.out Tryz.underlying169 rfl HI.out ?_) | (at_lookup; refine wpList_lookup_own_ok_int _ rfl _ _ 191 rfl 169 3 .i64 keyed169 Tryz.underlying191 Tryz.underlying3 (hz0 _) w.heap.size _ D rfl HOWN.out _ _ rfl HK1.out ?_; intro c hat hwc; obtain ⟨n, hn, hne, rfl⟩ := HHIT.out c hat; have S4 := hide (HST.out n hn hne); clear hat hwc hn hne))
        go_roundg (N - (num.length + 1) + 1)
        case measure => have := HG.out; omega
        case rel => exact ⟨num ++ [n], fst, by simp, S4, by simp⟩
      · have hhas : Maps.has D (lit num.length) = false := by
          cases hx : Maps.has D (lit num.length) with
          | false => rfl
          | true => exact absurd ((hh _).1 hx) hm
        have HPL : Hid (plainElem (H := Unit) Tryz.prog 3 (.int .i64 (fst.length : Int)) = some (.lit (.int .i64 (fst.length : Int)), [])) := plainElem_int Tryz.underlying3 (by simp [Lit.wf, IntKind.min, IntKind.max, IntKind.signed, IntKind.bits]; omega)
        have HFN : Hid ((fst.map lit).length < maxLen) := by unfold Hid maxLen; rw [List.length_map]; omega
        have HPUT := hide (fun (w4 : World) h1 (t4 : w3.mapTurned w4 w.heap.size) => S3.out.put (w' := w4) hm (HKL.out _ hi) hh ha HOWN.out h1 t4)
        go_wp2_with (first
          | (refine wpList_load_row rfl 169 (.tmp 8) rfl bb rfl 169 m (0, 0) _ HBM.out Tryz.underlying169 rfl HI.out ?_)
          | (at_lookup; refine wpList_lookup_own_ok_int _ rfl _ _ 191 rfl 169 3 .i64 keyed169 Tryz.underlying191 Tryz.underlying3 (hz0 _) w.heap.size _ D rfl HOWN.out _ _ rfl HK1.out ?_; intro c hat hwc; clear hat hwc)
          | (at_mapUpdate; refine wpList_mapUpdate_in _ rfl _ _ _ 191 rfl 169 3 keyed169 Tryz.underlying191 _ w.heap.size _ D rfl HOWN.out HFN.out _ _ _ rfl rfl HK1.out _ [] HPL.out ?_; intro w4 h4 t4; have S4 := hide (HPUT.out w4 h4 t4); have O5 := hide S4.out.o5; have HN5 := hide (one_int w4 num.length 3); have HS5 : Hid (w.heap.size ≤ (w4.alloc (.cells #[.int .i64 (num.length : Nat)] 3)).heap.size) := S4.out.s5; clear h4 t4)
          | (at_builtin; refine wpList_append_view rfl (.tmp 34) (.tmp 36) 22 rfl w.heap.size 3 i3 (.int .i64 0) 1 8 Tryz.underlying22 hi3 hz30 hz31 hz32 rfl (by decide) _ fst.length (nCells fst) rfl O5.out ⟨w4.heap.size, 0, none⟩ 1 1 [.int .i64 (num.length : Nat)] rfl rfl HN5.out (by simp [Value.oneCell']) (by decide) (by unfold maxLen; omega) (by omega) HS5.out ?_; intro v6 w6 g1 g2; obtain ⟨⟨⟨u6, q1⟩, q2⟩, S6⟩ := S4.out.app hi g1 g2; have S6 := hide S6; clear g1 g2))
        go_roundg (N - (num.length + 1) + 1)
        case measure => have := HG.out; omega
        case rel => exact ⟨num ++ [fst.length], fst ++ [num.length], by simp, S6, by simp⟩
    · have hi' : ¬ (num.length : Int) < (N : Int) := by omega
      go_wp2
      go_ret2
      refine ⟨⟨_, _, rfl, num, fst, ?_⟩, S.out.bel⟩
      have e : num.length = N := by omega
      have h1 := S.out.o1
      rw [e, Nat.sub_self, List.replicate_zero, List.append_nil] at h1
      exact ⟨h1, S.out.o2, S.out.ap, e, by have := S.out.nf; rw [e] at this; exact this⟩


end Go.Proofs.YtdgoilkgplnhfaaGreat
