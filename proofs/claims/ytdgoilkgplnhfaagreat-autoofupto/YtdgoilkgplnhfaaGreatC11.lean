/-
  Keys that are structs of one array: they are read as keys, and tell just their elements. Of the program its types alone: no condition.
-/
import Derived.DeepKeys4
import Derived.Deep.WholeRow
import Derived.Laws.CopyOwn
import Derived.Test.YtdgoilkgplnhfaaGreatC10
set_option maxRecDepth 100000
set_option maxHeartbeats 16000000
namespace Go.Proofs.YtdgoilkgplnhfaaGreat
open Go.RowKit Go.Lib Go.Maps
theorem mapM_some {α β : Type} (f : α → Option β) (g : α → β) : ∀ l : List α, (∀ x ∈ l, f x = some (g x)) → l.mapM f = some (l.map g)
 | [], _ => rfl
 | x :: l, h => by
   rw [List.mapM_cons, h x List.mem_cons_self, mapM_some f g l (fun y hy => h y (List.mem_cons_of_mem _ hy))]
   rfl
theorem size_types : Tryz.prog.types.size = 253 := by kernel_rfl
theorem cells169 : Tryz.prog.cellsOf 169 = 256 ∧ Tryz.prog.cellsOf 167 = 256 ∧ Tryz.prog.cellsOf 5 = 1 := ⟨by kernel_rfl, by kernel_rfl, by kernel_rfl⟩
theorem ktype169 : Tryz.prog.keyType 169 = true := by kernel_rfl
theorem u8_key (b : Nat) (hb : b < 256) (d : Nat) : Tryz.prog.keyLits (d + 1) 5 [.int .u8 (b : Int)] = some [.int .u8 (b : Int)] := by
 unfold Program.keyLits
 simp only [Tryz.underlying5]
 rw [if_pos (by simp [Lit.wf, IntKind.min, IntKind.max, IntKind.signed, IntKind.bits]; omega)]
theorem keyOf_leads (B : List Nat) (hl : B.length = 256) (hv : ∀ x ∈ B, x < 256) : ∃ l, keyOf Tryz.prog 169 (.agg (B.map fun (b : Nat) => Value.int .u8 (b : Int)).toArray) = some l := by
 obtain ⟨c1, c2, c3⟩ := cells169
 have hlits : ∃ ls, Tryz.prog.keyLits (Tryz.prog.types.size + 1) 169 (B.map fun (b : Nat) => Value.int .u8 (b : Int)) = some ls := by
  rw [size_types]
  unfold Program.keyLits
  simp only [Tryz.underlying169]
  have hlen : (B.map fun (b : Nat) => Value.int .u8 (b : Int)).length = 256 := by rw [List.length_map, hl]
  rw [if_pos ⟨by rw [hlen, c1], by first | (simp; done) | kernel_rfl⟩]
  have h167 : ∃ ls, Tryz.prog.keyLits 253 167 (B.map fun (b : Nat) => Value.int .u8 (b : Int)) = some ls := by
   unfold Program.keyLits
   simp only [Tryz.underlying167]
   rw [if_pos (by rw [hlen, c2]), mapM_some _ (fun i => [Lit.int .u8 ((gN B i : Nat) : Int)]) (List.range 256) (fun i hi => ?_)]
   · exact ⟨_, rfl⟩
   · have hi' : i < B.length := by rw [hl]; exact List.mem_range.1 hi
     have e : ((B.map fun (b : Nat) => Value.int .u8 (b : Int)).drop (i * Tryz.prog.cellsOf 5)).take (Tryz.prog.cellsOf 5) = [.int .u8 ((gN B i : Nat) : Int)] := by
      rw [c3, Nat.mul_one, List.drop_eq_getElem_cons (by rw [List.length_map]; exact hi'), gN_lt hi']
      simp
     rw [e]
     exact u8_key _ (by rw [gN_lt hi']; exact hv _ (List.getElem_mem hi')) 251
  obtain ⟨ls, hls⟩ := h167
  have e : ((B.map fun (b : Nat) => Value.int .u8 (b : Int)).drop 0).take (Tryz.prog.cellsOf 167) = B.map fun (b : Nat) => Value.int .u8 (b : Int) := by
   rw [List.drop_zero, c2, List.take_of_length_le (by rw [hlen]; exact Nat.le_refl _)]
  simp only [List.mapM_cons, List.mapM_nil, e, hls]
  exact ⟨_, rfl⟩
 obtain ⟨ls, hls⟩ := hlits
 unfold keyOf
 simp only [Tryz.underlying169]
 rw [if_pos (by
  rw [ktype169]
  simp [Value.formed, Tryz.underlying169, c1, hl])]
 have e : (Value.agg (B.map fun (b : Nat) => Value.int .u8 (b : Int)).toArray).cells.toList = B.map fun (b : Nat) => Value.int .u8 (b : Int) := by simp [Value.cells]
 rw [e, hls]
 exact ⟨_, rfl⟩
theorem keyed169 : Keyed Tryz.prog 169 := Keyed.of_law (deep_law_laid (m := 254) (by kernel_rfl) (by decide) (by rw [size_types]; decide) (by kernel_rfl) (by simp [Tryz.underlying169]))
theorem Tryz.info169 : (Tryz.prog.info? 169).map (fun i => (i.zero, i.size)) = some (some (.agg (Array.replicate 256 (Value.int .u8 0))), 256) := by kernel_rfl
theorem numL_any (N : Nat) (c0 c1 : Value) (look : Nat → Array Value) (lit : Nat → Lit) (w : World) (hN : N ≤ 4294967296) (hk : ∀ i, i < N → keyOf Tryz.prog 169 (.agg (look i)) = some (lit i)) (hls : ∀ i, i < N → (look i).size = 256) (hla : ∀ i, i < N → (look i).all (·.oneCell') = true) (hkl : ∀ i, i < N → WideAt.IsKeyLit (lit i))
 (hc : ∀ i, i < N → ∀ W, Below w.heap.size w W → Calls Tryz.prog 119 #[.int .i64 (i : Nat), c0, c1] W fun e w' => e = .returned (.agg (look i)) ∧ Below W.heap.size W w') :
 Calls Tryz.prog 118 #[.int .i64 (N : Nat), .func (.func 119) #[] #[c0, c1]] w fun e w' => (∃ v1 v2, e = .returned (.tuple #[v1, v2]) ∧ ∃ num fst, NmDone w.heap.size lit N v1 v2 num fst w') ∧ Below w.heap.size w w' := by
 obtain ⟨i3, hi3, hz30, hz31, hz32⟩ := info_parts Tryz.info3n
 have hz0 : ∀ W, (zeroValue 3).run Tryz.prog W = .ok (.int .i64 0) W := fun W => Tryz.zeroValue3 W
 have hmm : ∀ W : World, (Instr.makeMap 191 none).run Tryz.prog W = .ok (.map (some W.heap.size)) (W.alloc (.map #[] 0)) := fun W => rfl
 have HC := hide hc
 have HK := hide hk
 have HKL := hide hkl
 have HLS := hide hls
 have HLA := hide hla
 obtain ⟨hzv, hsz⟩ := zero_of_info Tryz.info169
 obtain ⟨z, hz⟩ : ∃ z, z = (Array.replicate 256 (Value.int .u8 0)) := ⟨_, rfl⟩
 have hzs : z.size = 256 := by rw [hz]; simp
 rw [← hz] at hzv
 have HZS := hide hzs
 have HSZ := hide hsz
 clear hz hzs hsz hls hla
 clear hc hk hkl
 have S0 := hide (fun w2 h1 h2 => NmS.start 169 w lit N w2 h1 h2)
 go_enter Tryz.func118, Tryz.ntmps118
 go_wp2_with (at_make; refine wpList_make_full _ rfl (.tmp 12) (.tmp 12) 22 rfl w.heap.size 3 i3 (.int .i64 0) 1 Tryz.underlying22 hi3 hz30 hz31 .i64 .i64 _ _ N rfl rfl rfl rfl (by rw [hz32]; omega) (by unfold maxLen; omega) (by simp) ?_; intro w2 h1 h2; have S1 := hide (S0.out w2 h1 h2); clear h1 h2)
 go_loopg [5, 15] (N + 1) (fun g v2 x wr => ∃ (num fst : List Nat), x = .int .i64 (num.length : Nat) ∧ Hid (NmS 169 w lit N w.heap.size (.slice (some ⟨w.heap.size + 1, 0, none⟩) N N) v2 num fst wr) ∧ N - num.length < g)
 case atStart => exact ⟨[], [], rfl, S1, by simp⟩
 case round =>
  obtain ⟨num, fst, rfl, S, hg⟩ := hrel
  have HG := hide hg
  clear hg S1 S0
  have hle := S.out.le
  obtain ⟨a2, k2, hv2, _⟩ := own_shape S.out.o2
  subst hv2
  by_cases hi : num.length < N
  · have hi' : (num.length : Int) < (N : Int) := by omega
    have H1 := hide (HC.out num.length hi wr S.out.bel)
    go_wp2_with (fail)
    refine H1.out.mono ?_
    rintro e w3 ⟨rfl, x3⟩
    clear H1
    obtain ⟨m, hmm2⟩ : ∃ m, m = look num.length := ⟨_, rfl⟩
    have HI : Hid ((Tryz.prog.info? 169).map (·.size) = some m.size) := by unfold Hid; rw [HSZ.out, hmm2, HLS.out _ hi]
    have HZ2 : Hid (z.size = m.size) := by unfold Hid; rw [HZS.out, hmm2, HLS.out _ hi]
    have HAL : Hid (m.all (·.oneCell') = true) := by unfold Hid; rw [hmm2]; exact HLA.out _ hi
    have HK0 := HK.out num.length hi
    rw [← hmm2] at HK0 ⊢
    have HBZ := hide (heap_alloc_new w3 (.cells z 169))
    have HBM := heap_alloc_new w3 (.cells m 169)
    have y3 : Below w3.heap.size w3 (w3.alloc (.cells m 169)) := al (Below.refl _ _) _
    have S4 := S.out.below (bt x3 y3 (Nat.le_refl _))
    have bb3 : ∃ bb, bb = w3.heap.size := ⟨_, rfl⟩
    clear hmm2 x3 y3
    go_upto_region 7 with (refine wpList_store_row rfl 169 (.tmp 8) (.tmp 20) rfl w3.heap.size m rfl rfl 169 z HBZ.out HI.out HZ2.out HAL.out ?_; rw [World.setRow_alloc_new])
    generalize w3.alloc (.cells m 169) = w5 at *
    obtain ⟨bb, hbb⟩ := bb3
    rw [← hbb] at HBM ⊢
    clear hbb HBZ
    have HBM := hide HBM
    rename World => w3
    have S3 := hide S4
    clear S4
    obtain ⟨D, hown, hh, ha⟩ := S3.out.map
    have HK1 := hide HK0
    clear HK0
    have HOWN := hide hown
    have HA := hide ha
    have hfl : fst.length ≤ num.length := by
     have h := S3.out.nf
     exact pigeon num.length fst.length (gN fst) h.fstlt (fun i h1 j h2 e => by rw [← h.numfst i h1, ← h.numfst j h2, e])
    by_cases hm : lit num.length ∈ fst.map lit
    · have hhas : Maps.has D (lit num.length) = true := (hh _).2 hm
      have HHIT : Hid (∀ c : Int, D.atKey (lit num.length) (.lit (.int .i64 0)) = .lit (.int .i64 c) → ∃ n, n < fst.length ∧ lit (gN fst n) = lit num.length ∧ c = (n : Int)) := fun c hc => by
       obtain ⟨n, hn, e, rfl⟩ := atKey_lit HA.out hc hm
       rw [List.length_map] at hn
       refine ⟨n, hn, ?_, rfl⟩
       rw [← e, List.getElem_map, gN_lt hn]
      obtain ⟨⟨u1, q1⟩, q2⟩ := S3.out.slot hi
      have HST := hide (fun n hn he => S3.out.hit (n := n) hi hn he)
      go_wp2_with (first | (refine wpList_load_row rfl 169 (.tmp 8) rfl bb rfl 169 m (0, 0) _ HBM.out Tryz.underlying169 rfl HI.out ?_) | (at_lookup; refine wpList_lookup_own_ok_int _ rfl _ _ 191 rfl 169 3 .i64 keyed169 Tryz.underlying191 Tryz.underlying3 (hz0 _) w.heap.size _ D rfl HOWN.out _ _ rfl HK1.out ?_; intro c hat hwc; obtain ⟨n, hn, hne, rfl⟩ := HHIT.out c hat; have S4 := hide (HST.out n hn hne); clear hat hwc hn hne))
      go_roundg (N - (num.length + 1) + 1)
      case measure => have := HG.out; omega
      case rel => exact ⟨num ++ [n], fst, by simp, S4, by simp⟩
    · have hhas : Maps.has D (lit num.length) = false := by
       cases hx : Maps.has D (lit num.length) with
       | false => rfl
       | true => exact absurd ((hh _).1 hx) hm
      have HPL : Hid (plainElem (H := Unit) Tryz.prog 3 (.int .i64 (fst.length : Int)) = some (.lit (.int .i64 (fst.length : Int)), [])) := plainElem_int Tryz.underlying3 (by simp [Lit.wf, IntKind.min, IntKind.max, IntKind.signed, IntKind.bits]; omega)
      have HFN : Hid ((fst.map lit).length < maxLen) := by unfold Hid maxLen; rw [List.length_map]; omega
      have HPUT := hide (fun (w4 : World) h1 (t4 : w3.mapTurned w4 w.heap.size) => S3.out.put (w' := w4) hm (HKL.out _ hi) hh ha HOWN.out h1 t4)
      go_wp2_with (first
       | (refine wpList_load_row rfl 169 (.tmp 8) rfl bb rfl 169 m (0, 0) _ HBM.out Tryz.underlying169 rfl HI.out ?_)
       | (at_lookup; refine wpList_lookup_own_ok_int _ rfl _ _ 191 rfl 169 3 .i64 keyed169 Tryz.underlying191 Tryz.underlying3 (hz0 _) w.heap.size _ D rfl HOWN.out _ _ rfl HK1.out ?_; intro c hat hwc; clear hat hwc)
       | (at_mapUpdate; refine wpList_mapUpdate_in _ rfl _ _ _ 191 rfl 169 3 keyed169 Tryz.underlying191 _ w.heap.size _ D rfl HOWN.out HFN.out _ _ _ rfl rfl HK1.out _ [] HPL.out ?_; intro w4 h4 t4; have S4 := hide (HPUT.out w4 h4 t4); have O5 := hide S4.out.o5; have HN5 := hide (one_int w4 num.length 3); have HS5 : Hid (w.heap.size ≤ (w4.alloc (.cells #[.int .i64 (num.length : Nat)] 3)).heap.size) := S4.out.s5; clear h4 t4)
       | (at_builtin; refine wpList_append_view rfl (.tmp 34) (.tmp 36) 22 rfl w.heap.size 3 i3 (.int .i64 0) 1 8 Tryz.underlying22 hi3 hz30 hz31 hz32 rfl (by decide) _ fst.length (nCells fst) rfl O5.out ⟨w4.heap.size, 0, none⟩ 1 1 [.int .i64 (num.length : Nat)] rfl rfl HN5.out (by simp [Value.oneCell']) (by decide) (by unfold maxLen; omega) (by omega) HS5.out ?_; intro v6 w6 g1 g2; obtain ⟨⟨⟨u6, q1⟩, q2⟩, S6⟩ := S4.out.app hi g1 g2; have S6 := hide S6; clear g1 g2))
      go_roundg (N - (num.length + 1) + 1)
      case measure => have := HG.out; omega
      case rel => exact ⟨num ++ [fst.length], fst ++ [num.length], by simp, S6, by simp⟩
  · have hi' : ¬ (num.length : Int) < (N : Int) := by omega
    go_wp2
    go_ret2
    refine ⟨⟨_, _, rfl, num, fst, ?_⟩, S.out.bel⟩
    have e : num.length = N := by omega
    have h1 := S.out.o1
    rw [e, Nat.sub_self, List.replicate_zero, List.append_nil] at h1
    exact ⟨h1, S.out.o2, S.out.ap, e, by have := S.out.nf; rw [e] at this; exact this⟩
theorem merged1_any (ao : Option Addr) (cap xb b : Nat) (P : List Nat) (w : World) (hb : b < P.length) (hc : w.cell? ⟨xb, 0, none⟩ = some (.slice ao P.length cap)) (hat : NAt w ao P) :
 Calls Tryz.prog 121 #[.int .i64 (b : Nat), .pointer (some ⟨xb, 0, none⟩)] w fun e w' => e = .returned (.int .i64 ((gN P b : Nat) : Int)) ∧ Below w.heap.size w w' := by
 obtain ⟨g, off, rfl, _, c1⟩ := hat.get hb
 rw [← gN_lt hb] at c1
 have hlb : (b : Int) < (P.length : Int) := by omega
 go_enter Tryz.func121, Tryz.ntmps121
 go_wp2
 go_ret
 exact ⟨rfl, Below.refl _ _⟩
structure MgS (NX OU : List Nat) (W base : Nat) (w0 : World) (uv fv : Value) (num fst : List Nat) (xv ov : Value) (X : List Nat) (k j : Nat) (w : World) : Prop where
 rws : Rws w base [(uv, num), (fv, fst), (xv, X), (ov, (fst.take k).map (gN OU))]
 len : X.length = k * W + j
 kl : k ≤ fst.length
 jl : j ≤ W
 val : ∀ q, q < X.length → gN X q = gN num (gN NX (gN fst (q / W) * W + q % W))
 bel : Below base w0 w
section
variable {NX OU : List Nat} {W base : Nat} {w0 w w' : World} {uv fv : Value} {num fst : List Nat} {xv ov : Value} {X : List Nat} {k j : Nat}
theorem MgS.below (h : MgS NX OU W base w0 uv fv num fst xv ov X k j w) (hb : base ≤ w0.heap.size) (x : Below w.heap.size w w') : MgS NX OU W base w0 uv fv num fst xv ov X k j w' :=
 ⟨h.rws.below x, h.len, h.kl, h.jl, h.val, h.bel.trans (x.mono (Nat.le_trans hb h.bel.size))⟩
theorem MgS.put (h : MgS NX OU W base w0 uv fv num fst xv ov X k j w) (hb : base ≤ w0.heap.size) (hj : j < W) {v : Nat} (hv : v = gN num (gN NX (gN fst k * W + j))) {w5 : World} (x5 : Below w.heap.size w w5) {xv' : Value} (h1 : w'.ownsRow base 3 1 xv' (X.length + 1) (nCells X ++ [.int .i64 (v : Int)])) (h2 : AppAt w5 w' xv xv') :
 MgS NX OU W base w0 uv fv num fst xv' ov (X ++ [v]) k (j + 1) w' := by
 have h5 := h.below hb x5
 have r := h5.rws.app (i := 2) (by simp) (L := X) h1 h2
 have ox : w5.ownsRow base 3 1 xv X.length (nCells X) := h5.rws.own 2 (by simp)
 have hl : (X ++ [v]).length = X.length + 1 := by simp
 have hd := div_at (i := k) hj
 rw [← h.len] at hd
 refine ⟨r, by rw [hl, h.len]; omega, h.kl, hj, fun q hq => ?_, ?_⟩
 · by_cases h2 : q < X.length
   · rw [gN_left h2]; exact h.val q h2
   · obtain rfl : q = X.length := by omega
     rw [gN_last, hd.1, hd.2]; exact hv
 · obtain ⟨F, k6, hF⟩ : ∃ F : Nat → Prop, Kept F w5 w' ∧ (∀ b, F b → xv.ownBlock = some b) := by
    rcases h2 with ⟨q, a, b, c⟩ | ⟨a, b⟩
    · exact ⟨fun b => some q = some b, kept_of_grown c, fun b hb => a.trans hb⟩
    · exact ⟨fun _ => False, Kept.of_below (below_of_grown a), fun b hb => hb.elim⟩
   exact h5.bel.trans (k6.below (Nat.le_trans hb h5.bel.size) (fun b hf => (World.ownsRow.lt ox b (hF b hf)).1))
theorem MgS.row (h : MgS NX OU W base w0 uv fv num fst xv ov X k W w) (hb : base ≤ w0.heap.size) (hk : k < fst.length) {w5 : World} (x5 : Below w.heap.size w w5) {ov' : Value} {O : List Nat} (hO : O = (fst.take k).map (gN OU)) (h1 : w'.ownsRow base 3 1 ov' (O.length + 1) (nCells O ++ [.int .i64 ((gN OU (gN fst k) : Nat) : Int)])) (h2 : AppAt w5 w' ov ov') :
 MgS NX OU W base w0 uv fv num fst xv ov' X (k + 1) 0 w' := by
 have h5 := h.below hb x5
 subst hO
 have r := h5.rws.app (i := 3) (by simp) h1 h2
 have oo : w5.ownsRow base 3 1 ov _ (nCells _) := h5.rws.own 3 (by simp)
 refine ⟨?_, by rw [h.len, Nat.succ_mul]; omega, hk, Nat.zero_le _, h.val, ?_⟩
 · rw [List.take_succ_eq_append_getElem hk, List.map_append, ← gN_lt hk]
   exact r
 · obtain ⟨F, k6, hF⟩ : ∃ F : Nat → Prop, Kept F w5 w' ∧ (∀ b, F b → ov.ownBlock = some b) := by
    rcases h2 with ⟨q, a, b, c⟩ | ⟨a, b⟩
    · exact ⟨fun b => some q = some b, kept_of_grown c, fun b hb => a.trans hb⟩
    · exact ⟨fun _ => False, Kept.of_below (below_of_grown a), fun b hb => hb.elim⟩
   exact h5.bel.trans (k6.below (Nat.le_trans hb h5.bel.size) (fun b hf => (World.ownsRow.lt oo b (hF b hf)).1))
end
structure MgD (NX OU P : List Nat) (W base : Nat) (xv ov : Value) (num fst X : List Nat) (w : World) : Prop where
 rws : Rws w base [(xv, X), (ov, fst.map (gN OU))]
 nf : NumF (gN P) P.length (gN num) (gN fst) fst.length
 len : X.length = fst.length * W
 val : ∀ q, q < X.length → gN X q = gN num (gN NX (gN fst (q / W) * W + q % W))
theorem MgS.fin {NX OU P : List Nat} {W base g b : Nat} {w0 w w' : World} {uv fv : Value} {num fst : List Nat} {xv ov : Value} {X : List Nat} (h : MgS NX OU W base w0 uv fv num fst xv ov X fst.length 0 w) (hnf : NumF (gN P) P.length (gN num) (gN fst) fst.length) (k6 : Kept (fun i => i = g) w w') (hg : g < base) (hb : b ≤ base) : MgD NX OU P W b xv ov num fst X w' := by
 have hge : ∀ j (hj : j < 4) c, (([(uv, num), (fv, fst), (xv, X), (ov, (fst.take fst.length).map (gN OU))] : List RN)[j]'hj).1.ownBlock = some c → ¬ c = g := fun j hj c hc e => by
  have := (World.ownsRow.lt (show w.ownsRow base 3 1 _ _ (nCells _) from h.rws.own j hj) c hc).1
  omega
 have r' := h.rws.kept k6 hge
 refine ⟨?_, hnf, by have := h.len; omega, h.val⟩
 have o1 : OwnN w' base xv X := r'.own 2 (by simp)
 have o2 : OwnN w' base ov ((fst.take fst.length).map (gN OU)) := r'.own 3 (by simp)
 rw [List.take_length] at o2
 exact (Rws.nil w' b).two (o1.mono' hb) (o2.mono' hb) (fun c h1 h2 => h.rws.ap 2 (by simp) 3 (by simp) (by decide) c h1 h2)
theorem n_wf (n : Nat) (h : n ≤ 9223372036854775807) : (Lit.int .i64 (n : Int)).wf = true := by
 simp [Lit.wf, IntKind.min, IntKind.max, IntKind.signed, IntKind.bits]
 omega
theorem merged_any (bs : By) (na oa pa : Option Addr) (nc oc pc W : Nat) (NX OU P : List Nat) (w : World) (hn0 : 0 < OU.length) (hn1 : OU.length ≤ 65536) (hW : NX.length = OU.length * W) (hW0 : 0 < W) (hW1 : W ≤ 256) (hPl : P.length = OU.length) (hP : ∀ x ∈ P, x ≤ 4294967296) (hnl : ∀ x ∈ NX, x < OU.length) (hnc : NX.length ≤ nc) (hnx : NAt w na NX) (hou : NAt w oa OU) (hpa : NAt w pa P) :
 Calls Tryz.prog 80 #[auV bs na NX.length nc oa OU.length oc, .slice pa P.length pc] w fun e w' => (∃ xa xn xc oa' on oc', e = .returned (auV bs xa xn xc oa' on oc') ∧ ∃ num fst X, MgD NX OU P W w.heap.size (.slice xa xn xc) (.slice oa' on oc') num fst X w') ∧ Below w.heap.size w w' := by
 obtain ⟨i3, hi3, hz30, hz31, hz32⟩ := info_parts Tryz.info3n
 have hmf : ∀ (fn : Fn) (first cap : Array Value) (w : World), (Instr.makeFunc fn first cap).run Tryz.prog w = .ok (.func fn first cap) w := fun _ _ _ _ => rfl
 have hxl : NX.length ≤ 16777216 := by
  have := Nat.mul_le_mul hn1 hW1
  rw [← hW] at this
  omega
 have hdiv : NX.length / OU.length = W := by rw [hW]; exact Nat.mul_div_cancel_left W hn0
 have hW2 : ∃ w2, w2 = (((w.alloc (.cells #[.string ⟨bs.toArray⟩, .slice na NX.length nc, .slice oa OU.length oc] 24)).alloc (.cells #[.slice pa P.length pc] 22)).alloc (.cells #[.string ⟨#[]⟩, .slice none 0 0, .slice none 0 0] 24)) ∧ Below w.heap.size w w2 ∧ w2.heap[w.heap.size]? = some (.cells #[.string ⟨bs.toArray⟩, .slice na NX.length nc, .slice oa OU.length oc] 24 (0, 0)) ∧ w2.heap[w.heap.size + 1]? = some (.cells #[.slice pa P.length pc] 22 (0, 0)) ∧ w2.heap[w.heap.size + 1 + 1]? = some (.cells #[.string ⟨#[]⟩, .slice none 0 0, .slice none 0 0] 24 (0, 0)) ∧ w2.heap.size = w.heap.size + 3 := by
  have B1 := heap_alloc_new w (.cells #[.string ⟨bs.toArray⟩, .slice na NX.length nc, .slice oa OU.length oc] 24)
  have s1 : (w.alloc (.cells #[.string ⟨bs.toArray⟩, .slice na NX.length nc, .slice oa OU.length oc] 24)).heap.size = w.heap.size + 1 := by simp
  have hb1 : Below w.heap.size w (w.alloc (.cells #[.string ⟨bs.toArray⟩, .slice na NX.length nc, .slice oa OU.length oc] 24)) := al (Below.refl _ _) _
  generalize w.alloc (.cells #[.string ⟨bs.toArray⟩, .slice na NX.length nc, .slice oa OU.length oc] 24) = wa at *
  have B2 := heap_alloc_new wa (.cells #[.slice pa P.length pc] 22)
  have Y2 : Below wa.heap.size wa (wa.alloc (.cells #[.slice pa P.length pc] 22)) := al (Below.refl _ _) _
  have s2 : (wa.alloc (.cells #[.slice pa P.length pc] 22)).heap.size = w.heap.size + 1 + 1 := by simp [s1]
  have B3 := heap_alloc_new (wa.alloc (.cells #[.slice pa P.length pc] 22)) (.cells #[.string ⟨#[]⟩, .slice none 0 0, .slice none 0 0] 24)
  have Y3 : Below (wa.alloc (.cells #[.slice pa P.length pc] 22)).heap.size (wa.alloc (.cells #[.slice pa P.length pc] 22)) ((wa.alloc (.cells #[.slice pa P.length pc] 22)).alloc (.cells #[.string ⟨#[]⟩, .slice none 0 0, .slice none 0 0] 24)) := al (Below.refl _ _) _
  rw [s1] at B2
  rw [s2] at B3
  have b1' := (Y2.block _ (lt_of_block B1)).trans B1
  exact ⟨_, rfl, bt (bt hb1 Y2 (Nat.le_refl _)) Y3 (Nat.le_refl _), (Y3.block _ (lt_of_block b1')).trans b1', (Y3.block _ (lt_of_block B2)).trans B2, B3, by simp [s1]⟩
 obtain ⟨w2, hw2, X2, B1, B2, B3, hs2⟩ := hW2
 have HX2 := hide X2
 have HB1 := hide B1
 have HB2 := hide B2
 have HB3 := hide B3
 have HS2 := hide hs2
 have HNX := hide hnx
 have HOU := hide hou
 have HPA := hide hpa
 have HPL := hide hPl
 have HWL := hide hW
 have HPB := hide hP
 have HNL := hide hnl
 clear X2 B1 B2 B3 hs2 hnx hou hpa hPl hW hP hnl
 have hp1 : P.length ≤ 65536 := by have := HPL.out; omega
 have HN := hide (numI_any P.length (.pointer (some ⟨w.heap.size + 1, 0, none⟩)) (fun b => .int .i64 ((gN P b : Nat) : Int)) (fun b => .int .i64 ((gN P b : Nat) : Int)) w2 (by omega)
  (fun i hi => keyOf_int_mk Tryz.underlying3 (n_wf _ (by have := HPB.out (gN P i) (by rw [gN_lt hi]; exact List.getElem_mem hi); omega))) (fun i _ => trivial)
  (fun i hi W x => merged1_any pa pc (w.heap.size + 1) i P W hi (by rw [cell_of_row _ _ _ _ _ _ ((x.block _ (lt_of_block HB2.out)).trans HB2.out)]; rfl) (HPA.out.below (bt HX2.out x (Nat.le_refl _)))))
 have hcb : w2.cell? ⟨w.heap.size + 1, 0, none⟩ = some (.slice pa P.length pc) := by rw [cell_of_row _ _ _ _ _ _ HB2.out]; rfl
 unfold auV
 go_enter Tryz.func80, Tryz.ntmps80
 go_wp2_with (fail)
 rw [← hw2]
 refine HN.out.mono ?_
 rintro e w3 ⟨⟨uv, fv, rfl, num, fst, hd⟩, x3⟩
 clear HN hw2 hcb
 have c3 : ∀ W, Below w2.heap.size w2 W → W.cell? ⟨w.heap.size, 0, none⟩ = some (.string ⟨bs.toArray⟩) ∧ W.cell? ⟨w.heap.size, 1, none⟩ = some (.slice na NX.length nc) ∧ W.cell? ⟨w.heap.size, 2, none⟩ = some (.slice oa OU.length oc) := fun W x => by
  have := (x.block _ (lt_of_block HB1.out)).trans HB1.out
  exact ⟨by rw [cell_of_row _ _ _ _ _ _ this]; rfl, by rw [cell_of_row _ _ _ _ _ _ this]; rfl, by rw [cell_of_row _ _ _ _ _ _ this]; rfl⟩
 have HC := hide c3
 have HD := hide hd
 have XX3 := hide x3
 have R3 : Hid (Rws w3 w2.heap.size [(uv, num), (fv, fst)]) := (Rws.nil w3 w2.heap.size).two hd.o1 hd.o2 hd.ap
 have hnf : NumF (gN P) P.length (gN num) (gN fst) fst.length := hd.nf.lits (fun b c h => by injection h with _ h; exact Int.ofNat.inj h) (fun b c h => by have h' : gN P b = gN P c := h; rw [h'])
 have HNF := hide hnf
 have hfl : fst.length ≤ 65536 := by
  have := pigeon P.length fst.length (gN fst) hnf.fstlt (fun i h1 j h2 e => by rw [← hnf.numfst i h1, ← hnf.numfst j h2, e])
  omega
 have hnl : num.length = P.length := hd.len
 have HNM := hide hnl
 obtain ⟨d0, d1, d2⟩ := c3 w3 x3
 have HWD := hide (width_any bs na oa NX.length nc OU.length oc w3 (by omega) hn0)
 rw [hdiv] at HWD
 obtain ⟨fa, fc, hfv, _⟩ := own_shape (show w3.ownsRow w2.heap.size 3 1 fv fst.length (nCells fst) from R3.out.own 1 (by simp))
 subst hfv
 obtain ⟨ua, uc, huv, _⟩ := own_shape (show w3.ownsRow w2.heap.size 3 1 uv num.length (nCells num) from R3.out.own 0 (by simp))
 subst huv
 clear c3 x3 hd hnf hdiv hnl
 go_wp2_with (fail)
 refine HWD.out.mono ?_
 rintro e w4 ⟨rfl, x4⟩
 have X4 := hide (bt XX3.out x4 (Nat.le_refl _))
 have R4 := hide (R3.out.below x4)
 have hmm : fst.length * W ≤ 16777216 := by have := Nat.mul_le_mul hfl hW1; omega
 have hmul : IntKind.i64.wrap ((fst.length : Int) * (W : Int)) = ((fst.length * W : Nat) : Int) := by rw [show (fst.length : Int) * (W : Int) = ((fst.length * W : Nat) : Int) by simp]; exact w64_n _ (by omega)
 have HS0 : Hid (∀ (w5 : World) (g5 c5 : Nat), w5.ownsRow w2.heap.size 3 1 (.slice (some ⟨g5, 0, none⟩) 0 c5) 0 [] → w4.grownBy w5 none → w4.heap.size ≤ g5 → MgS NX OU W w2.heap.size w2 (.slice ua num.length uc) (.slice fa fst.length fc) num fst (.slice (some ⟨g5, 0, none⟩) 0 c5) (.slice none 0 0) [] 0 0 w5) := fun w5 g5 c5 p1 p2 hg => by
  have x5 := below_of_grown p2
  have o5 : OwnN w5 w2.heap.size (.slice (some ⟨g5, 0, none⟩) 0 c5) [] := p1
  have r5 := R4.out.cons x5 o5 (fun b hb => by have e : g5 = b := Option.some.inj hb; omega)
  have r6 := r5.cons (Below.refl _ _) (OwnN.nil w5 w2.heap.size) (fun b hb => by cases hb)
  exact ⟨r6, by simp, Nat.zero_le _, Nat.zero_le _, fun q hq => by simp at hq, bt X4.out x5 (Nat.le_refl _)⟩
 clear x4 HWD d0 d1 d2 R3 R4
 generalize hFW : fst.length * W = FW at *
 go_wp2_with (at_make; refine wpList_make_own _ rfl (.const (.int .i64 0)) (.tmp 26) 22 rfl w2.heap.size 3 i3 (.int .i64 0) 1 Tryz.underlying22 hi3 hz30 hz31 .i64 .i64 _ FW rfl rfl rfl (by rw [hz32]; omega) (by unfold maxLen; omega) X4.out.size ?_; intro w5 p1 p2; have S0 := hide (HS0.out w5 _ _ p1 p2 (Nat.le_refl _)); clear p1 p2)
 clear HS0 hFW
 go_loopg [8, 9, 30] (fst.length + 1) (fun g xv ov x wr => ∃ (k : Nat) (X : List Nat), x = .int .i64 (k : Nat) ∧ Hid (MgS NX OU W w2.heap.size w2 (.slice ua num.length uc) (.slice fa fst.length fc) num fst xv ov X k 0 wr) ∧ fst.length - k < g)
 case atStart => exact ⟨0, [], rfl, S0, by omega⟩
 case round =>
  obtain ⟨k, X, rfl, S, hg⟩ := hrel
  have HG := hide hg
  clear hg S0
  have hkl := S.out.kl
  obtain ⟨xa, xc, hxv⟩ := OwnN.shape (S.out.rws.own 2 (by simp))
  obtain ⟨va, vc, hov⟩ := OwnN.shape (S.out.rws.own 3 (by simp))
  simp only [List.getElem_cons_succ, List.getElem_cons_zero] at hxv hov
  subst hxv hov
  by_cases hk : k < fst.length
  · have hk' : (k : Int) < (fst.length : Int) := by omega
    obtain ⟨fg, rfl, cf⟩ := OwnN.gcell (S.out.rws.own 1 (by simp)) hk
    have hsl : gN fst k < OU.length := by have := HNF.out.fstlt k hk; have := HPL.out; omega
    have HSK : Hid (gN fst k = gN fst k) := rfl
    obtain ⟨s, hs⟩ : ∃ s, s = gN fst k := ⟨_, rfl⟩
    rw [← hs] at cf hsl
    have HS := hide hs
    clear hs HSK
    have hmW : s * W + W ≤ NX.length := by
     have := Nat.mul_le_mul_right W (show s + 1 ≤ OU.length by omega)
     rw [Nat.succ_mul, ← HWL.out] at this
     exact this
    have f1 : IntKind.i64.wrap ((s : Int) * (W : Int)) = ((s * W : Nat) : Int) := by rw [show (s : Int) * (W : Int) = ((s * W : Nat) : Int) by simp]; exact w64_n _ (by omega)
    have f2 : IntKind.i64.wrap ((s : Int) + 1) = ((s + 1 : Nat) : Int) := by rw [show (s : Int) + 1 = ((s + 1 : Nat) : Int) by simp]; exact w64_n _ (by omega)
    have f3 : IntKind.i64.wrap (((s + 1 : Nat) : Int) * (W : Int)) = ((s * W + W : Nat) : Int) := by rw [show ((s + 1 : Nat) : Int) * (W : Int) = ((s * W + W : Nat) : Int) by rw [← Nat.succ_mul]; simp]; exact w64_n _ (by omega)
    have f3' : IntKind.i64.wrap (((s : Int) + 1) * (W : Int)) = ((s * W + W : Nat) : Int) := by rw [show ((s : Int) + 1) * (W : Int) = ((s * W + W : Nat) : Int) by rw [← Nat.succ_mul]; simp]; exact w64_n _ (by omega)
    obtain ⟨nb, off, rfl, -, -⟩ := (HNX.out.below (bt HX2.out S.out.bel (Nat.le_refl _))).get (show s * W < NX.length by omega)
    obtain ⟨_, e1, _⟩ := HC.out wr S.out.bel
    have HSW : Hid (∀ j, j < W → s * W + j < NX.length) := fun j hj => by omega
    generalize hm : s * W = m at *
    have HMM := hide hm
    clear hm
    have h1 : (m : Int) ≤ ((m + W : Nat) : Int) := by omega
    have h2 : ((m + W : Nat) : Int) ≤ (nc : Int) := by omega
    have h3 : ((m + W : Nat) : Int) ≤ (NX.length : Int) := by omega
    have hmw : m + W - m = W := by omega
    obtain ⟨O, hO⟩ : ∃ O, (fst.take k).map (gN OU) = O := ⟨_, rfl⟩
    rw [hO]
    have HO := hide hO
    have S' : Hid (MgS NX OU W w2.heap.size w2 (.slice ua num.length uc) (.slice (some ⟨fg, 0, none⟩) fst.length fc) num fst (.slice xa X.length xc) (.slice va O.length vc) X k 0 wr) := by rw [← hO]; exact S
    clear S hO
    go_wp2
    rw [hmw]
    go_loopg [8, 45] (W + 1) (fun g xv x wr => ∃ (j : Nat) (X : List Nat), x = .int .i64 (j : Nat) ∧ Hid (MgS NX OU W w2.heap.size w2 (.slice ua num.length uc) (.slice (some ⟨fg, 0, none⟩) fst.length fc) num fst xv (.slice va O.length vc) X k j wr) ∧ W - j < g)
    case atStart => exact ⟨0, X, rfl, S', by omega⟩
    case round =>
     obtain ⟨j, X, rfl, S, hg2⟩ := hrel
     have HG2 := hide hg2
     clear hg2 S' cf e1
     obtain ⟨xa, xc, hxv⟩ := OwnN.shape (S.out.rws.own 2 (by simp))
     simp only [List.getElem_cons_succ, List.getElem_cons_zero] at hxv
     subst hxv
     have hjl := S.out.jl
     have hXl : X.length ≤ 33554432 := by
      have h4 := S.out.len
      have h5 := Nat.mul_le_mul (show k ≤ 65536 by omega) hW1
      omega
     by_cases hj : j < W
     · have hj' : (j : Int) < (W : Int) := by omega
       have hq := HSW.out j hj
       obtain ⟨nb', off', e9, _, cx⟩ := (HNX.out.below (bt HX2.out S.out.bel (Nat.le_refl _))).get hq
       simp only [Option.some.injEq, Addr.mk.injEq] at e9
       obtain ⟨rfl, rfl, -⟩ := e9
       have htl := HNL.out _ (List.getElem_mem hq)
       rw [← gN_lt hq] at cx htl
       obtain ⟨t, ht⟩ : ∃ t, gN NX (m + j) = t := ⟨_, rfl⟩
       rw [ht] at cx htl
       have htu : t < num.length := by have := HNM.out; have := HPL.out; omega
       obtain ⟨ug, rfl, cu⟩ := OwnN.gcell (S.out.rws.own 0 (by simp)) htu
       have htu' : (t : Int) < (num.length : Int) := by omega
       obtain ⟨v, hv⟩ : ∃ v, gN num t = v := ⟨_, rfl⟩
       rw [hv] at cu
       have HV : Hid (v = gN num (gN NX (gN fst k * W + j))) := by unfold Hid; rw [← HS.out, HMM.out, ht, hv]
       rw [show off + (m + j) = off + m + j by omega] at cx
       have O6 : Hid ((wr.alloc (.cells #[.int .i64 (v : Nat)] 3)).ownsRow w2.heap.size 3 1 (.slice xa X.length xc) X.length (nCells X)) := own_below (show wr.ownsRow w2.heap.size 3 1 (.slice xa X.length xc) X.length (nCells X) from S.out.rws.own 2 (by simp)) (NmP.x5 _ _)
       have HN6 := hide (one_int wr v 3)
       have HS6 : Hid (w2.heap.size ≤ (wr.alloc (.cells #[.int .i64 (v : Nat)] 3)).heap.size) := Nat.le_trans S.out.bel.size (NmP.x5 wr v).size
       have HPA2 := hide (fun (w6 : World) (v6 : Value) g1 g2 => S.out.put (w' := w6) (xv' := v6) (Nat.le_refl _) hj HV.out (NmP.x5 wr v) g1 g2)
       clear ht hv hq
       go_wp2_with (at_builtin; refine wpList_append_view rfl (.tmp 49) (.tmp 54) 22 rfl w2.heap.size 3 i3 (.int .i64 0) 1 8 Tryz.underlying22 hi3 hz30 hz31 hz32 rfl (by decide) _ X.length (nCells X) rfl O6.out ⟨wr.heap.size, 0, none⟩ 1 1 [.int .i64 (v : Nat)] rfl rfl HN6.out (by simp [Value.oneCell']) (by decide) (by unfold maxLen; omega) (by omega) HS6.out ?_; intro v6 w6 g1 g2; have S6 := hide (HPA2.out w6 v6 g1 g2); clear g1 g2)
       go_roundg (W - (j + 1) + 1)
       case measure => have := HG2.out; omega
       case rel => exact ⟨j + 1, X ++ [v], by first | rfl | go_num | (congr 1; omega), S6, by omega⟩
     · have hj' : ¬ (j : Int) < (W : Int) := by omega
       obtain rfl : W = j := by omega
       obtain ⟨ob, ooff, rfl, hob, co⟩ := (HOU.out.below (bt HX2.out S.out.bel (Nat.le_refl _))).get hsl
       obtain ⟨_, _, e2⟩ := HC.out wr S.out.bel
       obtain ⟨y, hy⟩ : ∃ y, OU[s] = y := ⟨_, rfl⟩
       have HY : Hid (gN OU (gN fst k) = y) := by unfold Hid; rw [← HS.out, gN_lt hsl, hy]
       rw [hy] at co
       have hol : O.length ≤ 65536 := by have := HO.out; rw [← this, List.length_map, List.length_take]; omega
       have hsl' : (s : Int) < (OU.length : Int) := by omega
       have O7 : Hid ((wr.alloc (.cells #[.int .i64 (y : Nat)] 3)).ownsRow w2.heap.size 3 1 (.slice va O.length vc) O.length (nCells O)) := own_below (show wr.ownsRow w2.heap.size 3 1 (.slice va O.length vc) O.length (nCells O) from by have := S.out.rws.own 3 (by simp); simp only [List.getElem_cons_succ, List.getElem_cons_zero, HO.out] at this; exact this) (NmP.x5 _ _)
       have HN7 := hide (one_int wr y 3)
       have HS7 : Hid (w2.heap.size ≤ (wr.alloc (.cells #[.int .i64 (y : Nat)] 3)).heap.size) := Nat.le_trans S.out.bel.size (NmP.x5 wr y).size
       have HROW := hide (fun (w6 : World) (v6 : Value) g1 g2 => S.out.row (w' := w6) (ov' := v6) (Nat.le_refl _) hk (NmP.x5 wr y) (O := O) HO.out.symm g1 g2)
       rw [HY.out] at HROW
       have hkw : IntKind.i64.wrap ((k : Int) + 1) = ((k + 1 : Nat) : Int) := by simp [IntKind.wrap, IntKind.bits, IntKind.signed]; omega
       clear hy
       go_wp2_with (at_builtin; refine wpList_append_view rfl (.tmp 57) (.tmp 63) 22 rfl w2.heap.size 3 i3 (.int .i64 0) 1 8 Tryz.underlying22 hi3 hz30 hz31 hz32 rfl (by decide) _ O.length (nCells O) rfl O7.out ⟨wr.heap.size, 0, none⟩ 1 1 [.int .i64 (y : Nat)] rfl rfl HN7.out (by simp [Value.oneCell']) (by decide) (by unfold maxLen; omega) (by omega) HS7.out ?_; intro v6 w6 g1 g2; have S6 := hide (HROW.out w6 v6 g1 g2); clear g1 g2)
       go_roundg (fst.length - (k + 1) + 1)
       case measure => have := HG.out; omega
       case rel => exact ⟨k + 1, X, by first | rfl | go_num | (congr 1; omega), S6, by omega⟩
  · have hk' : ¬ (k : Int) < (fst.length : Int) := by omega
    obtain rfl : k = fst.length := by omega
    obtain ⟨O, hO⟩ : ∃ O, (fst.take fst.length).map (gN OU) = O := ⟨_, rfl⟩
    rw [hO]
    have S' : Hid (MgS NX OU W w2.heap.size w2 (.slice ua num.length uc) (.slice fa fst.length fc) num fst (.slice xa X.length xc) (.slice va O.length vc) X fst.length 0 wr) := by rw [← hO]; exact S
    clear S hO
    have S := S'
    clear S'
    obtain ⟨e0, _, _⟩ := HC.out wr S.out.bel
    have hlt3 := lt_of_block HB3.out
    obtain ⟨c0, f0, c1, f1, c2, f2, B6, k6⟩ := st3 ((S.out.bel.block _ hlt3).trans HB3.out) (.string ⟨bs.toArray⟩) (.slice xa X.length xc) (.slice va O.length vc)
    have B0 := (S.out.bel.block _ hlt3).trans HB3.out
    have Q1 := block_setCell B0 0 (.string ⟨bs.toArray⟩)
    have Q2 := block_setCell Q1 1 (.slice xa X.length xc)
    have d0 : (wr.setCell ⟨w.heap.size + 1 + 1, 0, none⟩ (.string ⟨bs.toArray⟩)).cell? ⟨w.heap.size + 1 + 1, 0, none⟩ = some (.string ⟨bs.toArray⟩) := by rw [cell_of_row _ _ _ _ _ _ Q1]; rfl
    have d1 : ((wr.setCell ⟨w.heap.size + 1 + 1, 0, none⟩ (.string ⟨bs.toArray⟩)).setCell ⟨w.heap.size + 1 + 1, 1, none⟩ (.slice xa X.length xc)).cell? ⟨w.heap.size + 1 + 1, 1, none⟩ = some (.slice xa X.length xc) := by rw [cell_of_row _ _ _ _ _ _ Q2]; rfl
    have d2 : (((wr.setCell ⟨w.heap.size + 1 + 1, 0, none⟩ (.string ⟨bs.toArray⟩)).setCell ⟨w.heap.size + 1 + 1, 1, none⟩ (.slice xa X.length xc)).setCell ⟨w.heap.size + 1 + 1, 2, none⟩ (.slice va O.length vc)).cell? ⟨w.heap.size + 1 + 1, 2, none⟩ = some (.slice va O.length vc) := by rw [cell_of_row _ _ _ _ _ _ B6]; rfl
    clear B0 Q1 Q2
    have hsz := HS2.out
    have HF := hide (S.out.fin HNF.out k6 (by omega) (b := w.heap.size) (by omega))
    have HXF := hide ((bt HX2.out S.out.bel (Nat.le_refl _)).trans (k6.below (by have := S.out.bel.size; omega) (fun b hb => by omega)))
    clear B6 k6
    go_wp2
    refine bodyPost_ret (by simp [results, Tryz.results80, go_sem, d0, d1, d2]; try rfl) rfl ?_
    exact ⟨⟨_, _, _, _, _, _, rfl, num, fst, X, HF.out⟩, HXF.out⟩
end Go.Proofs.YtdgoilkgplnhfaaGreat
