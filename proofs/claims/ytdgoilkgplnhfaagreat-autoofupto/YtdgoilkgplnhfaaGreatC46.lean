/-
  The document's Of by its contract. Condition: lists no longer than a process can hold.
-/
import Derived.Test.YtdgoilkgplnhfaaGreatC45
set_option maxRecDepth 100000
set_option maxHeartbeats 16000000
namespace Go.Proofs.YtdgoilkgplnhfaaGreat
open Go.RowKit Go.Lib
theorem NAt.raw {w : World} {ao : Option Addr} {L : List Nat} (h : NAt w ao L) : ZAt w ao (zN L) := by
 rcases h with h | ⟨b, off, h1, h2, h3⟩
 · exact .inl (by rw [h]; rfl)
 · refine .inr ⟨b, off, h1, h2, fun i hi => ?_⟩
   have := h3 i (by rw [zN_len] at hi; exact hi)
   rw [this]
   simp [zN]
theorem bsI_mx : mxL (ntL bsI) + 1 = 256 := by kernel_rfl
theorem zN_at {X : List Nat} {i : Nat} (h : i < (zN X).length) (h2 : i < X.length) : (zN X)[i] = ((X[i] : Nat) : Int) := by simp [zN]
theorem ofD_mayZ {L : List Pc} {St : List (List Bool)} {NX : List Nat} (hE : ExD (plZ L) (plS L) 256 St NX) (hS : St.length ≤ 256) (n : Nat) : MayZ bsI (zN NX) (zN (ofO n St)) := by
 have hM := ofD_may hE hS n
 have h0 := hE.s0.1
 refine mayZ_in bsI_len (by rw [zN_len, ofO_len]; omega) (by rw [zN_len, ofO_len]; omega) (by rw [zN_len, zN_len, ofO_len, bsI_mx, hE.len, Nat.mul_comm]) (fun i hi => ?_) (fun i hi => ?_)
 · have hi2 := hi
   rw [zN_len] at hi2
   have := hM.lb _ (List.getElem_mem hi2)
   rw [zN_at hi hi2]
   unfold Lab
   omega
 · have hi2 := hi
   rw [zN_len] at hi2
   have := hM.nl _ (List.getElem_mem hi2)
   rw [zN_at hi hi2, zN_len]
   omega
theorem Tryz.info86n : (Tryz.prog.info? 86).map (fun i => (i.zero, i.size, i.bytes)) = some (some (.slice none 0 0), 1, 24) := by kernel_rfl
theorem ofD_any (ao : Option Addr) (cap : Nat) (D : List PD) (w : World) (hLen : ∀ d ∈ D, d.p.set.length ≤ 140737488351232) (hat : PcAt w ao D) :
 Calls Tryz.prog 21 #[.slice ao D.length cap] w fun e w' => OfP (D.map PD.p) w.heap.size e w' ∧ Below w.heap.size w w' := by
 obtain ⟨i3, hi3, hz30, hz31, hz32⟩ := info_parts Tryz.info3n
 obtain ⟨i5, hi5, hz50, hz51, hz52⟩ := info_parts Tryz.info5n
 obtain ⟨i86, hi86, hz860, hz861, hz862⟩ := info_parts Tryz.info86n
 have HI : Hid ((Tryz.prog.info? 24).map (·.size) = some 3) := by unfold Hid; kernel_rfl
 have A0 : Hid ((#[.string ⟨#[]⟩, .slice none 0 0, .slice none 0 0] : Array Value).all (·.oneCell') = true) := by unfold Hid; simp [Value.oneCell']
 obtain ⟨w2, hw2⟩ : ∃ w2, w2 = w.alloc (.cells #[.string ⟨#[]⟩, .slice none 0 0, .slice none 0 0] 24) := ⟨_, rfl⟩
 have X2 : Below w.heap.size w w2 := by rw [hw2]; exact al (Below.refl _ _) _
 have B2 : w2.heap[w.heap.size]? = some (.cells #[.string ⟨#[]⟩, .slice none 0 0, .slice none 0 0] 24 (0, 0)) := by rw [hw2]; exact heap_alloc_new w _
 have HC : Hid (∀ V, Below w2.heap.size w2 V → V.heap[w.heap.size]? = some (.cells #[.string ⟨#[]⟩, .slice none 0 0, .slice none 0 0] 24 (0, 0)) ∧ PcAt V ao D) := fun V x => ⟨(x.block _ (lt_of_block B2)).trans B2, hat.below (bt X2 x (Nat.le_refl _))⟩
 have HX2 := hide X2
 have HL2 : Hid (w.heap.size < w2.heap.size) := lt_of_block B2
 have HLEN := hide hLen
 have HRT := hide (refRightP_any ao cap D w2 hLen (HC.out w2 (Below.refl _ _)).2)
 have HML : Hid ((D.map PD.p).length = D.length) := List.length_map ..
 have HZ : Hid (∀ V, Below w2.heap.size w2 V → V.heap[w.heap.size]? = some (.cells #[.string ⟨#[]⟩, .slice none 0 0, .slice none 0 0] 24 (0, 0)) ∧ Below w.heap.size w (V.setRow w.heap.size #[.string ⟨#[]⟩, .slice none 0 0, .slice none 0 0]) ∧ (V.setRow w.heap.size #[.string ⟨#[]⟩, .slice none 0 0, .slice none 0 0]).cell? ⟨w.heap.size, 0, none⟩ = some (.string ⟨#[]⟩) ∧ (V.setRow w.heap.size #[.string ⟨#[]⟩, .slice none 0 0, .slice none 0 0]).cell? ⟨w.heap.size, 1, none⟩ = some (.slice none 0 0) ∧ (V.setRow w.heap.size #[.string ⟨#[]⟩, .slice none 0 0, .slice none 0 0]).cell? ⟨w.heap.size, 2, none⟩ = some (.slice none 0 0)) := fun V x => by
  have B3 := (HC.out V x).1
  have B6 := setRow_heap V w.heap.size _ #[.string ⟨#[]⟩, .slice none 0 0, .slice none 0 0] 24 (0, 0) B3
  have k6 : Kept (fun k => k = w.heap.size) V (V.setRow w.heap.size #[.string ⟨#[]⟩, .slice none 0 0, .slice none 0 0]) := kept_row
  have x3 := bt HX2.out x (Nat.le_refl _)
  exact ⟨B3, x3.trans (k6.below x3.size (fun b hb => by omega)), cell_of_row _ _ 0 _ _ _ B6, cell_of_row _ _ 1 _ _ _ B6, cell_of_row _ _ 2 _ _ _ B6⟩
 clear X2 B2 hat hLen
 go_enter Tryz.func21, Tryz.ntmps21
 go_upto_region 1 with fail
 rw [← hw2]
 clear hw2
 go_wp2_with (fail)
 refine HRT.out.mono ?_
 rintro e w3 ⟨hyn, x3⟩
 have X3 := hide x3
 clear HRT x3
 rcases hyn with ⟨hR, rfl⟩ | ⟨hR, rfl⟩
 case inr =>
  as_aux_lemma =>
   have HNR := hide hR
   obtain ⟨b6, x6, z0, z1, z2⟩ := HZ.out w3 X3.out
   have HB3 := hide b6
   have X6 := hide x6
   clear b6 x6 hR
   go_wp2_with (refine wpList_store_row rfl 24 (.tmp 2) (.tmp 18) rfl w.heap.size #[.string ⟨#[]⟩, .slice none 0 0, .slice none 0 0] rfl rfl 24 #[.string ⟨#[]⟩, .slice none 0 0, .slice none 0 0] HB3.out HI.out rfl A0.out ?_)
   refine bodyPost_ret (by simp [results, Tryz.results21, go_sem, z0, z1, z2]; try rfl) rfl ?_
   exact ⟨.inl ⟨HNR.out, rfl⟩, X6.out⟩
 have hl : D.length ≤ 64 := by have := hR.1; rwa [List.length_map] at this
 have HR := hide hR
 have HBG := hide (refBegin_any ao cap D w3 hl (HC.out w3 X3.out).2)
 clear hR
 have HF3 : Hid (∀ V R, Fr w3 R V → Below w2.heap.size w2 V) := fun V R F => bt X3.out F.bel (Nat.le_refl _)
 go_upto_region 5 with (go_at_call 50; refine HBG.out.mono ?_; rintro e w4 ⟨rfl, m4, x4⟩; have M4 := hide m4; have X4 := hide x4; clear m4 x4)
 clear HBG
 have F4 : Hid (Fr w3 [(.slice (some ⟨w3.heap.size, 0, none⟩) (D.length + 1) (D.length + 1), 4, bC (tk D.length (plZ (D.map PD.p))))] w4) := by
  have hb : w4.heap[w3.heap.size]? = some (.cells (bC (tk D.length (plZ (D.map PD.p)))).toArray 4 (0, 0)) := by
   have := M4.out
   unfold MkAt at this
   rw [mkn_pl hl] at this
   rw [this]
   unfold plZ
   rw [HML.out]
  have hn : (bC (tk D.length (plZ (D.map PD.p)))).length = D.length + 1 := by rw [bC_len, tk_len hl (Vd.z _).1]
  have ho : w4.ownsRow w3.heap.size 4 1 (.slice (some ⟨w3.heap.size, 0, none⟩) (D.length + 1) (D.length + 1)) (bC (tk D.length (plZ (D.map PD.p)))).length (bC (tk D.length (plZ (D.map PD.p)))) := by
   rw [hn]
   exact own_blk hb (Nat.le_refl _) hn (by unfold maxLen; omega)
  exact (Fr.start w3).cons X4.out ho (fun b hb2 => by have e : w3.heap.size = b := Option.some.inj hb2; omega)
 obtain ⟨g0, hg0⟩ : ∃ g0, g0 = w3.heap.size := ⟨_, rfl⟩
 rw [← hg0] at F4 ⊢
 clear hg0 M4 X4
 have F5 := hide (F4.out.box 86 [.slice (some ⟨g0, 0, none⟩) (D.length + 1) (D.length + 1)] (by simp [maxLen]))
 obtain ⟨w5, hw5⟩ : ∃ w5, w5 = w4.alloc (.cells #[.slice (some ⟨g0, 0, none⟩) (D.length + 1) (D.length + 1)] 86) := ⟨_, rfl⟩
 obtain ⟨sv0, hsv0⟩ : ∃ sv0 : Value, sv0 = .slice (some ⟨w4.heap.size, 0, none⟩) 1 1 := ⟨_, rfl⟩
 have F5 : Hid (Fr w3 [(sv0, 86, sC [g0] (D.length + 1)), (.slice (some ⟨g0, 0, none⟩) (D.length + 1) (D.length + 1), 4, bC (tk D.length (plZ (D.map PD.p))))] w5) := by rw [hw5, hsv0]; exact F5.out
 rw [← hw5, ← hsv0]
 clear hw5 hsv0 F4
 have F6 := hide (F5.out.box 24 [.string ⟨#[]⟩, .slice none 0 0, .slice none 0 0] (by simp [maxLen]))
 go_upto_region 6 with fail
 obtain ⟨w6, hw6⟩ : ∃ w6, w6 = w5.alloc (.cells #[.string ⟨#[]⟩, .slice none 0 0, .slice none 0 0] 24) := ⟨_, rfl⟩
 obtain ⟨bx, hbx⟩ : ∃ bx, bx = w5.heap.size := ⟨_, rfl⟩
 have F6 : Hid (Fr w3 ((.slice none 0 0, 3, nCells []) :: (.slice none 0 0, 3, nCells []) :: (.slice (some ⟨bx, 0, none⟩) 3 3, 24, [.string ⟨#[]⟩, .slice none 0 0, .slice none 0 0]) :: (sv0, 86, sC [g0] (D.length + 1)) :: [(.slice (some ⟨g0, 0, none⟩) (D.length + 1) (D.length + 1), 4, bC (tk D.length (plZ (D.map PD.p))))]) w6) := by rw [hw6, hbx]; exact Fr.front ((Fr.front (F6.out.bare 3)).bare 3)
 rw [← hw6, ← hbx]
 clear hw6 hbx F5
 have F7 : Hid (Fr w3 ((.slice none 0 0, 5, uCells ((List.range 256).take 0)) :: (.slice none 0 0, 3, nCells []) :: (.slice none 0 0, 3, nCells []) :: (.slice (some ⟨bx, 0, none⟩) 3 3, 24, [.string ⟨#[]⟩, .slice none 0 0, .slice none 0 0]) :: (sv0, 86, sC [g0] (D.length + 1)) :: [(.slice (some ⟨g0, 0, none⟩) (D.length + 1) (D.length + 1), 4, bC (tk D.length (plZ (D.map PD.p))))]) w6) := Fr.front (F6.out.bare 5)
 clear F6
 go_wp2
 go_loopg [7, 8] 257 (fun g x y wr => ∃ (b : Nat), y = .int .i64 (b : Nat) ∧ b ≤ 256 ∧ Hid (Fr w3 ((x, 5, uCells ((List.range 256).take b)) :: (.slice none 0 0, 3, nCells []) :: (.slice none 0 0, 3, nCells []) :: (.slice (some ⟨bx, 0, none⟩) 3 3, 24, [.string ⟨#[]⟩, .slice none 0 0, .slice none 0 0]) :: (sv0, 86, sC [g0] (D.length + 1)) :: [(.slice (some ⟨g0, 0, none⟩) (D.length + 1) (D.length + 1), 4, bC (tk D.length (plZ (D.map PD.p))))]) wr) ∧ 256 - b < g)
 case atStart => exact ⟨0, rfl, by omega, F7, by omega⟩
 case round =>
  clear F7
  obtain ⟨b, rfl, hb1, FB, hg⟩ := hrel
  have HG := hide hg
  clear hg
  obtain ⟨wx, rfl⟩ : ∃ wx, wx = wr := ⟨_, rfl⟩
  have hul : (uCells ((List.range 256).take b)).length = b := by rw [uCells_len, List.length_take, List.length_range]; omega
  obtain ⟨ua, uc, hv⟩ := FB.out.shape (i := 0) (by simp) rfl
  rw [hul] at hv
  subst hv
  by_cases hb : b < 256
  · as_aux_lemma =>
    have hb' : (b : Int) < 256 := by omega
    have f1 : IntKind.u8.wrap ((b : Nat) : Int) = ((b : Nat) : Int) := by simp [IntKind.wrap, IntKind.bits, IntKind.signed]; omega
    have eS : uCells ((List.range 256).take b) ++ [.int .u8 ((b : Nat) : Int)] = uCells ((List.range 256).take (b + 1)) := by
     rw [List.take_succ_eq_append_getElem (l := List.range 256) (i := b) (by rw [List.length_range]; omega), List.getElem_range]
     unfold uCells
     rw [List.map_append]
     rfl
    have P1 : Hid ((wx.alloc (.cells #[.int .u8 (b : Int)] 5)).ownsRow w3.heap.size 5 1 (.slice ua b uc) b (uCells ((List.range 256).take b))) := by
     have ho := FB.out.own (i := 0) (by simp) rfl
     rw [hul] at ho
     exact own_below ho (al (Below.refl _ _) _)
    have P2 : Hid (∀ (j : Nat) (u : Value), [(.int .u8 (b : Int))][j]? = some u → (wx.alloc (.cells #[.int .u8 (b : Int)] 5)).cell? ((⟨wx.heap.size, 0, none⟩ : Addr).add j) = some u) := fun j u hu => by
     have hB := heap_alloc_new wx (.cells #[.int .u8 (b : Int)] 5)
     rw [addr_add', cell_of_row _ _ _ _ _ _ hB]
     simpa using hu
    have P3 : Hid (w3.heap.size ≤ (wx.alloc (.cells #[.int .u8 (b : Int)] 5)).heap.size) := Nat.le_trans FB.out.bel.size (al (Below.refl wx.heap.size wx) (.cells #[.int .u8 (b : Int)] 5)).size
    have HPU : Hid (∀ v' w6, w6.ownsRow w3.heap.size 5 1 v' (b + 1) (uCells ((List.range 256).take b) ++ [.int .u8 (b : Int)]) → AppAt (wx.alloc (.cells #[.int .u8 (b : Int)] 5)) w6 (.slice ua b uc) v' → Fr w3 ((v', 5, uCells ((List.range 256).take (b + 1))) :: (.slice none 0 0, 3, nCells []) :: (.slice none 0 0, 3, nCells []) :: (.slice (some ⟨bx, 0, none⟩) 3 3, 24, [.string ⟨#[]⟩, .slice none 0 0, .slice none 0 0]) :: (sv0, 86, sC [g0] (D.length + 1)) :: [(.slice (some ⟨g0, 0, none⟩) (D.length + 1) (D.length + 1), 4, bC (tk D.length (plZ (D.map PD.p))))]) w6) := fun v' w6 k1 k2 => by
     rw [← eS]
     exact FB.out.app (al (Below.refl _ _) _) (i := 0) (by simp) rfl (by rw [hul]; exact k1) k2
    clear eS FB
    go_upto_region 9 with (at_builtin; refine wpList_append_view rfl (.tmp 27) (.tmp 30) 89 rfl w3.heap.size 5 i5 (.int .u8 0) 1 1 Tryz.underlying89 hi5 hz50 hz51 hz52 rfl (by decide) _ b _ rfl P1.out ⟨wx.heap.size, 0, none⟩ 1 1 [(.int .u8 (b : Int))] rfl rfl P2.out (by simp [Value.oneCell']) (by decide) (by unfold maxLen; omega) (by omega) P3.out ?_; intro v6 w6 k1 k2; have FZ := hide (HPU.out v6 w6 k1 k2); clear k1 k2)
    clear P1 P2 P3 HPU
    go_wp2
    go_roundg (256 - (b + 1) + 1)
    case measure => have := HG.out; omega
    case rel => exact ⟨b + 1, by first | rfl | go_num | (congr 1; omega), by omega, FZ, by omega⟩
  · as_aux_lemma =>
    obtain rfl : b = 256 := by omega
    have hb' : ¬ (256 : Int) < 256 := by omega
    rw [show (List.range 256).take 256 = List.range 256 by rw [List.take_of_length_le (by rw [List.length_range]; exact Nat.le_refl _)]] at FB
    have hul2 : (uCells (List.range 256)).length = 256 := by rw [uCells_len, List.length_range]
    obtain ⟨ug, e, -, -⟩ := FB.out.cell (i := 0) (by simp) rfl (k := 0) (by rw [hul2]; decide)
    subst e
    have hcv : (convert 89 9 (.slice (some ⟨ug, 0, none⟩) 256 uc)).run Tryz.prog wx = .ok (.string (strOfNums ((List.range 256).map fun b : Nat => (b : Int)))) wx := by
     refine run_convert_bytes_arg wx 89 5 Tryz.underlying89 Tryz.underlying5 ug 0 256 uc ((List.range 256).map fun b : Nat => (b : Int)) (by simp) (fun i hi => ?_) 9 Tryz.underlying9
     rw [Nat.zero_add, (FB.out.slot (i := 0) (by simp) rfl (k := i) (by omega)).1]
     simp [uCells, List.getD_eq_getElem?_getD, hi]
    have HE : Hid (strOfNums ((List.range 256).map fun b : Nat => (b : Int)) = ⟨(btOf (List.range 256)).toArray⟩) := by
     unfold Hid strOfNums btOf
     rw [List.map_map]
     rfl
    rw [HE.out] at hcv
    obtain ⟨z0, z1⟩ := FB.out.slot (i := 3) (by simp) rfl (k := 0) (by simp)
    simp only [List.getElem_cons_zero] at z0
    have F1 : Hid (Fr w3 ((.slice none 0 0, 3, nCells []) :: (.slice none 0 0, 3, nCells []) :: (.slice (some ⟨bx, 0, none⟩) 3 3, 24, [.string ⟨(btOf (List.range 256)).toArray⟩, .slice none 0 0, .slice none 0 0]) :: (sv0, 86, sC [g0] (D.length + 1)) :: [(.slice (some ⟨g0, 0, none⟩) (D.length + 1) (D.length + 1), 4, bC (tk D.length (plZ (D.map PD.p))))]) (wx.setCell ⟨bx, 0, none⟩ (.string ⟨(btOf (List.range 256)).toArray⟩))) := Fr.tail (FB.out.store (i := 3) (by simp) rfl 0 _)
    clear FB HE hul hul2
    generalize hbI : btOf (List.range 256) = bI at *
    have HBI : Hid (bI = bsI) := hbI.symm
    clear hbI
    go_upto_region 12 with fail
    obtain ⟨wy, hwy⟩ : ∃ wy, wy = wx.setCell ⟨bx, 0, none⟩ (.string ⟨bI.toArray⟩) := ⟨_, rfl⟩
    rw [← hwy] at F1 ⊢
    clear hwy hcv z0 z1
    have S0 : Hid (ExS (plZ (D.map PD.p)) (plS (D.map PD.p)) 256 [plZ (D.map PD.p)] [] 0 0) := ExS.start
    have I0 : Hid (RbIn [(.slice (some ⟨g0, 0, none⟩) (D.length + 1) (D.length + 1), 4, bC (tk D.length (plZ (D.map PD.p))))] [g0] ([plZ (D.map PD.p)].map (tk D.length)) (D.length + 1)) := (RbIn.nil [] (D.length + 1)).add (g := g0) (L := tk D.length (plZ (D.map PD.p))) (tk_len hl (Vd.z _).1)
    have HRP : Hid (∀ d ∈ D, Rp d.p) := fun d hd => HR.out.2.1 _ (List.mem_map.2 ⟨d, hd, rfl⟩)
    go_wp2
    go_loopg [5, 9] 258 (fun g x y wr => ∃ (i : Nat) (St : List (List Bool)) (NX G O : List Nat) (xv ov : Value) (RR : List VR), y = .int .i64 (i : Nat) ∧ i ≤ St.length ∧ St.length ≤ 256 ∧ Hid (Fr w3 ((xv, 3, nCells NX) :: (ov, 3, nCells O) :: (.slice (some ⟨bx, 0, none⟩) 3 3, 24, [.string ⟨bI.toArray⟩, xv, ov]) :: (x, 86, sC G (D.length + 1)) :: RR) wr) ∧ Hid (ExS (plZ (D.map PD.p)) (plS (D.map PD.p)) 256 St NX i 0) ∧ Hid (RbIn RR G (St.map (tk D.length)) (D.length + 1)) ∧ Hid (O = ofO D.length (St.take i)) ∧ 257 - i < g)
    case atStart => exact ⟨0, [plZ (D.map PD.p)], [], [g0], [], _, _, _, rfl, by simp, by simp, F1, S0, I0, rfl, by omega⟩
    case round =>
     clear F1 S0 I0
     obtain ⟨i, St, NX, G, O, xv, ov, RR, rfl, hi1, hS, FR, S, I, HO, hg⟩ := hrel
     have HG1 := hide hg
     clear hg
     by_cases hi : i < St.length
     · obtain ⟨sa, sc, hv⟩ := FR.out.shape (i := 3) (by simp) rfl
       rw [sC_len, I.out.1, List.length_map] at hv
       subst hv
       have hi' : (i : Int) < (St.length : Int) := by omega
       go_wp2
       go_loopg [5, 10] 257 (fun g x y wr => ∃ (b : Nat) (St : List (List Bool)) (NX G O : List Nat) (xv : Value) (RR : List VR), y = .int .i64 (b : Nat) ∧ b ≤ 256 ∧ Hid (Fr w3 ((xv, 3, nCells NX) :: (ov, 3, nCells O) :: (.slice (some ⟨bx, 0, none⟩) 3 3, 24, [.string ⟨bI.toArray⟩, xv, ov]) :: (x, 86, sC G (D.length + 1)) :: RR) wr) ∧ Hid (ExS (plZ (D.map PD.p)) (plS (D.map PD.p)) 256 St NX i b) ∧ Hid (RbIn RR G (St.map (tk D.length)) (D.length + 1)) ∧ Hid (O = ofO D.length (St.take i)) ∧ i < St.length ∧ St.length ≤ 256 ∧ 256 - b < g)
       case atStart => exact ⟨0, St, NX, G, O, _, RR, rfl, by omega, FR, S, I, HO, hi, hS, by omega⟩
       case round =>
        clear FR S I HO hi hi' hi1 hS
        obtain ⟨b, St, NX, G, O, xv, RR, rfl, hb1, FR, S, I, HO, hi, hS, hg⟩ := hrel
        have HG2 := hide hg
        clear hg
        obtain ⟨sa, sc, hv⟩ := FR.out.shape (i := 3) (by simp) rfl
        rw [sC_len, I.out.1, List.length_map] at hv
        subst hv
        obtain ⟨sg, e, -, -⟩ := FR.out.cell (i := 3) (by simp) rfl (k := i) (by rw [sC_len, I.out.1, List.length_map]; exact hi)
        subst e
        have hi' : (i : Int) < (St.length : Int) := by omega
        by_cases hb : b < 256
        · have hb' : (b : Int) < 256 := by omega
          have hGl : i < G.length := by rw [I.out.1, List.length_map]; exact hi
          have s0 : wr.cell? ⟨sg, i, none⟩ = some (.slice (some ⟨gN G i, 0, none⟩) (D.length + 1) (D.length + 1)) := by
           rw [(FR.out.slot (i := 3) (by simp) rfl (k := i) (by rw [sC_len]; exact hGl)).1]
           simp [sC, gN_lt hGl]
          have hVi := S.out.vd i hi
          have hMK : MkAt wr (gN G i) (D.length + 1) (plF (gS (plZ (D.map PD.p)) St i)) := by
           have ho := I.out.row (Q := [(xv, 3, nCells NX), (ov, 3, nCells O), (.slice (some ⟨bx, 0, none⟩) 3 3, 24, [.string ⟨bI.toArray⟩, xv, ov]), (.slice (some ⟨sg, 0, none⟩) St.length sc, 86, sC G (D.length + 1))]) FR.out (i := i) (by rw [List.length_map]; exact hi)
           have := blk_own ho
           unfold MkAt
           rw [this, mkn_tk hl hVi.1, List.getElem_map, gS_lt hi]
          have HST := hide (refStep_any ao cap (gN G i) D (plF (gS (plZ (D.map PD.p)) St i)) (UInt8.ofNat b) wr hl HRP.out HLEN.out (HC.out wr (HF3.out _ _ FR.out)).2 hMK)
          have e8 : (UInt8.ofNat b).toNat = b := by simp; omega
          rw [e8] at HST
          have f1 : IntKind.u8.wrap ((b : Nat) : Int) = ((b : Nat) : Int) := by simp [IntKind.wrap, IntKind.bits, IntKind.signed]; omega
          obtain ⟨B', hB'⟩ : ∃ B', B' = plS (D.map PD.p) (gS (plZ (D.map PD.p)) St i) b := ⟨_, rfl⟩
          have hVB : Vd D.length B' := by rw [hB']; have := Vd.s (D.map PD.p) (gS (plZ (D.map PD.p)) St i) b; rwa [HML.out] at this
          have HB' := hide hB'
          clear hMK e8
          go_upto_region 19 with (go_at_call 51; refine HST.out.mono ?_; rintro e w5 ⟨rfl, m5, x5⟩; have M5 := hide m5; have X5 := hide x5; clear m5 x5)
          clear HST s0
          have F5 : Hid (Fr w3 ((.slice (some ⟨wr.heap.size, 0, none⟩) (D.length + 1) (D.length + 1), 4, bC (tk D.length B')) :: (xv, 3, nCells NX) :: (ov, 3, nCells O) :: (.slice (some ⟨bx, 0, none⟩) 3 3, 24, [.string ⟨bI.toArray⟩, xv, ov]) :: (.slice (some ⟨sg, 0, none⟩) St.length sc, 86, sC G (D.length + 1)) :: RR) w5) := by
           have hb5 : w5.heap[wr.heap.size]? = some (.cells (bC (tk D.length B')).toArray 4 (0, 0)) := by
            have := M5.out
            unfold MkAt at this
            rw [mkn_pl hl] at this
            rw [this, HB'.out]
            unfold plS
            first | done | rfl
           have hn : (bC (tk D.length B')).length = D.length + 1 := by rw [bC_len, tk_len hl hVB.1]
           have ho : w5.ownsRow w3.heap.size 4 1 (.slice (some ⟨wr.heap.size, 0, none⟩) (D.length + 1) (D.length + 1)) (bC (tk D.length B')).length (bC (tk D.length B')) := by
            rw [hn]
            exact own_blk hb5 FR.out.bel.size hn (by unfold maxLen; omega)
           exact Fr.front (FR.out.cons X5.out ho (fun k hk => by have e : wr.heap.size = k := Option.some.inj hk; omega))
          obtain ⟨gt, hgt⟩ : ∃ gt, gt = wr.heap.size := ⟨_, rfl⟩
          rw [← hgt] at F5 ⊢
          clear hgt M5 X5 FR
          have hlS : (tk D.length B').length = D.length + 1 := tk_len hl hVB.1
          have HWH := hide (whrD_any (some ⟨sg, 0, none⟩) (some ⟨gt, 0, none⟩) sc (D.length + 1) (St.map (tk D.length)) (tk D.length B') w5 (by rw [List.length_map]; exact hS) (by omega) (fun k hk => by
           have h1 := (I.out.2 k hk).1
           have eR : (St.map (tk D.length)).getD k [] = (St.map (tk D.length))[k] := by rw [List.getD_eq_getElem?_getD, List.getElem?_eq_getElem hk]; rfl
           rw [eR] at h1
           rw [h1, hlS]) (fun n => I.out.at (Q := [(.slice (some ⟨gt, 0, none⟩) (D.length + 1) (D.length + 1), 4, bC (tk D.length B')), (xv, 3, nCells NX), (ov, 3, nCells O), (.slice (some ⟨bx, 0, none⟩) 3 3, 24, [.string ⟨bI.toArray⟩, xv, ov]), (.slice (some ⟨sg, 0, none⟩) St.length sc, 86, sC G (D.length + 1))]) (k := 4) (F5.out.drew n) (by simp) rfl) (fun n => by
           have ho := (F5.out.drew n).own (i := 0) (by simp) rfl
           rw [bC_len] at ho
           exact bAt_own ho))
          rw [List.length_map, hlS] at HWH
          go_upto_region 20 with (go_at_call 52; refine HWH.out.mono ?_; rintro e wz ⟨⟨p, rfl, hp1, hp2, hp3⟩, nz, hwz⟩; have FZ0 : Hid (Fr w3 ((.slice (some ⟨gt, 0, none⟩) (D.length + 1) (D.length + 1), 4, bC (tk D.length B')) :: (xv, 3, nCells NX) :: (ov, 3, nCells O) :: (.slice (some ⟨bx, 0, none⟩) 3 3, 24, [.string ⟨bI.toArray⟩, xv, ov]) :: (.slice (some ⟨sg, 0, none⟩) St.length sc, 86, sC G (D.length + 1)) :: RR) wz) := (by rw [hwz]; exact F5.out.drew nz); clear hwz)
          clear HWH F5
          have hgd : ∀ a, a < St.length → (St.map (tk D.length)).getD a [] = tk D.length (gS (plZ (D.map PD.p)) St a) := fun a ha => by
           rw [gS_lt ha]
           simp [List.getD_eq_getElem?_getD, ha]
          by_cases hpS : p = St.length
          · subst hpS
            have hne : ∀ a, a < St.length → gS (plZ (D.map PD.p)) St a ≠ B' := fun a ha e => hp2 a ha (by rw [hgd a ha, e])
            have SA := hide (S.out.add hi hb hne HB'.out)
            have SN := hide (S.out.new hi hb hne HB'.out)
            have I2 : Hid (RbIn ((.slice (some ⟨gt, 0, none⟩) (D.length + 1) (D.length + 1), 4, bC (tk D.length B')) :: RR) (G ++ [gt]) ((St ++ [B']).map (tk D.length)) (D.length + 1)) := by
             have := I.out.add (g := gt) hlS
             rw [List.map_append]
             exact this
            have HO2 : Hid (O = ofO D.length ((St ++ [B']).take i)) := by
             unfold Hid
             rw [List.take_append_of_le_length (by omega)]; exact HO.out
            have EG := hide I.out.1
            have P1 : Hid ((wz.alloc (.cells #[(.slice (some ⟨gt, 0, none⟩) (D.length + 1) (D.length + 1))] 86)).ownsRow w3.heap.size 86 1 (.slice (some ⟨sg, 0, none⟩) St.length sc) St.length (sC G (D.length + 1))) := by
             have ho := FZ0.out.own (i := 4) (by simp) rfl
             rw [sC_len, EG.out, List.length_map] at ho
             exact own_below ho (al (Below.refl _ _) _)
            have P2 : Hid (∀ (j : Nat) (u : Value), [(.slice (some ⟨gt, 0, none⟩) (D.length + 1) (D.length + 1))][j]? = some u → (wz.alloc (.cells #[(.slice (some ⟨gt, 0, none⟩) (D.length + 1) (D.length + 1))] 86)).cell? ((⟨wz.heap.size, 0, none⟩ : Addr).add j) = some u) := fun j u hu => by
             have hB := heap_alloc_new wz (.cells #[(.slice (some ⟨gt, 0, none⟩) (D.length + 1) (D.length + 1))] 86)
             rw [addr_add', cell_of_row _ _ _ _ _ _ hB]
             simpa using hu
            have P3 : Hid (w3.heap.size ≤ (wz.alloc (.cells #[(.slice (some ⟨gt, 0, none⟩) (D.length + 1) (D.length + 1))] 86)).heap.size) := Nat.le_trans FZ0.out.bel.size (al (Below.refl wz.heap.size wz) (.cells #[(.slice (some ⟨gt, 0, none⟩) (D.length + 1) (D.length + 1))] 86)).size
            have HPU : Hid (∀ v' w6, w6.ownsRow w3.heap.size 86 1 v' (St.length + 1) (sC G (D.length + 1) ++ [(.slice (some ⟨gt, 0, none⟩) (D.length + 1) (D.length + 1))]) → AppAt (wz.alloc (.cells #[(.slice (some ⟨gt, 0, none⟩) (D.length + 1) (D.length + 1))] 86)) w6 (.slice (some ⟨sg, 0, none⟩) St.length sc) v' → Fr w3 ((xv, 3, nCells NX) :: (ov, 3, nCells O) :: (.slice (some ⟨bx, 0, none⟩) 3 3, 24, [.string ⟨bI.toArray⟩, xv, ov]) :: (v', 86, sC (G ++ [gt]) (D.length + 1)) :: (.slice (some ⟨gt, 0, none⟩) (D.length + 1) (D.length + 1), 4, bC (tk D.length B')) :: RR) w6) := fun v' w6 k1 k2 => by
             rw [sC_snoc]
             exact Fr.rot5 (FZ0.out.app (al (Below.refl _ _) _) (i := 4) (by simp) rfl (by rw [sC_len, EG.out, List.length_map]; exact k1) k2)
            have hqi : ((St.length : Int) == (St.length : Int)) = true := by simp
            clear hp1 hp2 hp3 hne hgd
            go_upto_region 22 with (at_builtin; refine wpList_append_view rfl (.tmp 60) (.tmp 62) 88 rfl w3.heap.size 86 i86 (.slice none 0 0) 1 24 Tryz.underlying88 hi86 hz860 hz861 hz862 rfl (by decide) _ St.length _ rfl P1.out ⟨wz.heap.size, 0, none⟩ 1 1 [(.slice (some ⟨gt, 0, none⟩) (D.length + 1) (D.length + 1))] rfl rfl P2.out (by simp [Value.oneCell']) (by decide) (by unfold maxLen; omega) (by omega) P3.out ?_; intro v6 w6 k1 k2; have FZ := hide (HPU.out v6 w6 k1 k2); clear k1 k2)
            clear P1 P2 P3 HPU FZ0 EG
            obtain ⟨va, vc, hv⟩ := FZ.out.shape (i := 3) (by simp) rfl
            have hGl2 : (sC (G ++ [gt]) (D.length + 1)).length = St.length + 1 := by rw [sC_len, I2.out.1, List.length_map, List.length_append, List.length_singleton]
            rw [hGl2] at hv
            subst hv
            have hGL := hide hGl2
            clear hGl2
            by_cases h256 : St.length = 256
            · as_aux_lemma =>
              have HMN : Hid (OfMany (D.map PD.p)) := ofD_many (by rw [HML.out]; exact hl) (SA.out.many (by simp [h256]))
              have h257 : (256 : Int) < ((St.length + 1 : Nat) : Int) := by omega
              obtain ⟨b6, x6, z0, z1, z2⟩ := HZ.out w6 (HF3.out _ _ FZ.out)
              have HB6 := hide b6
              have X6 := hide x6
              clear b6 x6 FZ
              go_wp2_with (refine wpList_store_row rfl 24 (.tmp 2) (.tmp 67) rfl w.heap.size #[.string ⟨#[]⟩, .slice none 0 0, .slice none 0 0] rfl rfl 24 #[.string ⟨#[]⟩, .slice none 0 0, .slice none 0 0] HB6.out HI.out rfl A0.out ?_)
              refine bodyPost_ret (by simp [results, Tryz.results21, go_sem, z0, z1, z2]; try rfl) rfl ?_
              exact ⟨.inr (.inl ⟨HR.out, HMN.out, rfl⟩), X6.out⟩
            · as_aux_lemma =>
              have h257 : ¬ (256 : Int) < ((St.length + 1 : Nat) : Int) := by omega
              have hS2 : (St ++ [B']).length ≤ 256 := by simp; omega
              have hi2 : i < (St ++ [B']).length := by simp; omega
              have h258 : ¬ (256 : Int) < (St.length : Int) + 1 := by omega
              have hNl : NX.length ≤ 65536 := by
               have h1 := S.out.len
               have h2 : i * 256 ≤ 65280 := by omega
               omega
              obtain ⟨q1, q2, q3⟩ := FZ.out.pre (i := 0) (by simp) rfl ((St.length : Nat) : Int)
              have Q1 := hide q1
              have Q2 := hide q2
              have Q3 := hide q3
              have HPU : Hid (∀ (g7 cap7 : Nat) (w7 : World), w7.ownsRow w3.heap.size 3 1 (.slice (some ⟨g7, 0, none⟩) (NX.length + 1) cap7) (NX.length + 1) (nCells NX ++ [.int .i64 ((St.length : Nat) : Int)]) → (w6.alloc (.cells #[.int .i64 ((St.length : Nat) : Int)] 3)).grownBy w7 xv.ownBlock → (xv.ownBlock = some g7 ∨ g7 = (w6.alloc (.cells #[.int .i64 ((St.length : Nat) : Int)] 3)).heap.size) → Fr w3 (((.slice (some ⟨g7, 0, none⟩) (NX.length + 1) cap7), 3, nCells (NX ++ [St.length])) :: (ov, 3, nCells O) :: (.slice (some ⟨bx, 0, none⟩) 3 3, 24, [.string ⟨bI.toArray⟩, xv, ov]) :: (.slice va (St.length + 1) vc, 86, sC (G ++ [gt]) (D.length + 1)) :: (.slice (some ⟨gt, 0, none⟩) (D.length + 1) (D.length + 1), 4, bC (tk D.length B')) :: RR) w7) := fun g7 cap7 w7 h1 h2 h3 => by
               rw [nCells_snoc]
               have := FZ.out.lies (al (Below.refl _ _) _) (i := 0) (by simp) rfl (g6 := g7) (cap6 := cap7) (x := .int .i64 ((St.length : Nat) : Int)) (by rw [nCells_length]; exact h1) h2 h3
               rw [nCells_length] at this
               exact this
              obtain ⟨y0, y1⟩ := FZ.out.slot (i := 2) (by simp) rfl (k := 1) (by simp)
              simp only [List.getElem_cons_succ, List.getElem_cons_zero] at y0
              have hbl : bx < w6.heap.size := (World.ownsRow.lt (FZ.out.own (i := 2) (by simp) rfl) bx rfl).2
              have hbn : ¬ bx = w6.heap.size := by omega
              have hbm : ¬ w6.heap.size = bx := by omega
              clear q1 q2 q3
              go_upto_region 17 with (at_builtin; refine wpList_append_lies _ rfl (.tmp 69) (.tmp 71) 22 rfl w3.heap.size 3 i3 (.int .i64 0) 1 8 Tryz.underlying22 hi3 hz30 hz31 hz32 rfl (by decide) _ NX.length (nCells NX) rfl Q1.out ⟨w6.heap.size, 0, none⟩ 1 1 [(.int .i64 ((St.length : Nat) : Int))] rfl rfl Q2.out (by simp [Value.oneCell']) (by decide) (by unfold maxLen; omega) (by omega) Q3.out _ rfl ?_; intro g7 cap7 w7 k1 k2 k3 k4; have FZ7 := hide (HPU.out g7 cap7 w7 k1 k2 k3); obtain ⟨z0, z1⟩ := FZ7.out.slot (i := 2) (by simp) rfl (k := 1) (by simp); simp only [List.getElem_cons_succ, List.getElem_cons_zero] at z0; have FY : Hid (Fr w3 (((.slice (some ⟨g7, 0, none⟩) (NX.length + 1) cap7), 3, nCells (NX ++ [St.length])) :: (ov, 3, nCells O) :: (.slice (some ⟨bx, 0, none⟩) 3 3, 24, [.string ⟨bI.toArray⟩, (.slice (some ⟨g7, 0, none⟩) (NX.length + 1) cap7), ov]) :: (.slice va (St.length + 1) vc, 86, sC (G ++ [gt]) (D.length + 1)) :: (.slice (some ⟨gt, 0, none⟩) (D.length + 1) (D.length + 1), 4, bC (tk D.length B')) :: RR) (w7.setCell ⟨bx, 1, none⟩ (.slice (some ⟨g7, 0, none⟩) (NX.length + 1) cap7))) := (FZ7.out.store (i := 2) (by simp) rfl 1 _); clear k1 k2 k3 k4)
              clear Q1 Q2 Q3 HPU y0 y1 z0 z1 FZ7
              go_wp2
              go_roundg (256 - (b + 1) + 1)
              case measure => have := HG2.out; omega
              case rel => exact ⟨b + 1, (St ++ [B']), NX ++ [St.length], (G ++ [gt]), O, _, _, by first | rfl | go_num | (congr 1; omega), by omega, FY, SN, I2, HO2, by first | omega | (simp; omega), by first | omega | (simp; omega), by omega⟩
          · as_aux_lemma =>
            have hpl : p < St.length := by omega
            have he : gS (plZ (D.map PD.p)) St p = B' := by
             have h1 := hp3 (by omega)
             rw [hgd p hpl] at h1
             have h2 := S.out.vd p hpl
             rw [HML.out] at h2
             exact Vd.inj h2 hVB h1
            have SN := hide (S.out.old hb hpl (by rw [he]; exact HB'.out))
            have F8 := hide FZ0.out.tail
            have hqi : ((p : Int) == (St.length : Int)) = false := by simp; omega
            have hqj : ¬ (p : Int) = (St.length : Int) := by omega
            have h257 : ¬ (256 : Int) < (St.length : Int) := by omega
            clear hp1 hp2 hp3 hgd he FZ0
            have hNl : NX.length ≤ 65536 := by
             have h1 := S.out.len
             have h2 : i * 256 ≤ 65280 := by omega
             omega
            obtain ⟨q1, q2, q3⟩ := F8.out.pre (i := 0) (by simp) rfl ((p : Nat) : Int)
            have Q1 := hide q1
            have Q2 := hide q2
            have Q3 := hide q3
            have HPU : Hid (∀ (g7 cap7 : Nat) (w7 : World), w7.ownsRow w3.heap.size 3 1 (.slice (some ⟨g7, 0, none⟩) (NX.length + 1) cap7) (NX.length + 1) (nCells NX ++ [.int .i64 ((p : Nat) : Int)]) → (wz.alloc (.cells #[.int .i64 ((p : Nat) : Int)] 3)).grownBy w7 xv.ownBlock → (xv.ownBlock = some g7 ∨ g7 = (wz.alloc (.cells #[.int .i64 ((p : Nat) : Int)] 3)).heap.size) → Fr w3 (((.slice (some ⟨g7, 0, none⟩) (NX.length + 1) cap7), 3, nCells (NX ++ [p])) :: (ov, 3, nCells O) :: (.slice (some ⟨bx, 0, none⟩) 3 3, 24, [.string ⟨bI.toArray⟩, xv, ov]) :: (.slice (some ⟨sg, 0, none⟩) St.length sc, 86, sC G (D.length + 1)) :: RR) w7) := fun g7 cap7 w7 h1 h2 h3 => by
             rw [nCells_snoc]
             have := F8.out.lies (al (Below.refl _ _) _) (i := 0) (by simp) rfl (g6 := g7) (cap6 := cap7) (x := .int .i64 ((p : Nat) : Int)) (by rw [nCells_length]; exact h1) h2 h3
             rw [nCells_length] at this
             exact this
            obtain ⟨y0, y1⟩ := F8.out.slot (i := 2) (by simp) rfl (k := 1) (by simp)
            simp only [List.getElem_cons_succ, List.getElem_cons_zero] at y0
            have hbl : bx < wz.heap.size := (World.ownsRow.lt (F8.out.own (i := 2) (by simp) rfl) bx rfl).2
            have hbn : ¬ bx = wz.heap.size := by omega
            have hbm : ¬ wz.heap.size = bx := by omega
            clear q1 q2 q3
            go_upto_region 17 with (at_builtin; refine wpList_append_lies _ rfl (.tmp 69) (.tmp 71) 22 rfl w3.heap.size 3 i3 (.int .i64 0) 1 8 Tryz.underlying22 hi3 hz30 hz31 hz32 rfl (by decide) _ NX.length (nCells NX) rfl Q1.out ⟨wz.heap.size, 0, none⟩ 1 1 [(.int .i64 ((p : Nat) : Int))] rfl rfl Q2.out (by simp [Value.oneCell']) (by decide) (by unfold maxLen; omega) (by omega) Q3.out _ rfl ?_; intro g7 cap7 w7 k1 k2 k3 k4; have FZ7 := hide (HPU.out g7 cap7 w7 k1 k2 k3); obtain ⟨z0, z1⟩ := FZ7.out.slot (i := 2) (by simp) rfl (k := 1) (by simp); simp only [List.getElem_cons_succ, List.getElem_cons_zero] at z0; have FY : Hid (Fr w3 (((.slice (some ⟨g7, 0, none⟩) (NX.length + 1) cap7), 3, nCells (NX ++ [p])) :: (ov, 3, nCells O) :: (.slice (some ⟨bx, 0, none⟩) 3 3, 24, [.string ⟨bI.toArray⟩, (.slice (some ⟨g7, 0, none⟩) (NX.length + 1) cap7), ov]) :: (.slice (some ⟨sg, 0, none⟩) St.length sc, 86, sC G (D.length + 1)) :: RR) (w7.setCell ⟨bx, 1, none⟩ (.slice (some ⟨g7, 0, none⟩) (NX.length + 1) cap7))) := (FZ7.out.store (i := 2) (by simp) rfl 1 _); clear k1 k2 k3 k4)
            clear Q1 Q2 Q3 HPU y0 y1 z0 z1 FZ7
            go_wp2
            go_roundg (256 - (b + 1) + 1)
            case measure => have := HG2.out; omega
            case rel => exact ⟨b + 1, St, NX ++ [p], G, O, _, _, by first | rfl | go_num | (congr 1; omega), by omega, FY, SN, I, HO, by first | omega | (simp; omega), by first | omega | (simp; omega), by omega⟩
        · as_aux_lemma =>
          have hb' : ¬ (b : Int) < 256 := by omega
          obtain rfl : b = 256 := by omega
          have S2 := hide (S.out.row hi (by omega))
          have hVi := S.out.vd i hi
          have hGl : i < G.length := by rw [I.out.1, List.length_map]; exact hi
          have s0 : wr.cell? ⟨sg, i, none⟩ = some (.slice (some ⟨gN G i, 0, none⟩) (D.length + 1) (D.length + 1)) := by
           rw [(FR.out.slot (i := 3) (by simp) rfl (k := i) (by rw [sC_len]; exact hGl)).1]
           simp [sC, gN_lt hGl]
          have s1 : wr.cell? ⟨gN G i, D.length, none⟩ = some (.bool (plF (gS (plZ (D.map PD.p)) St i) D.length)) := by
           have ho := I.out.row (Q := [(xv, 3, nCells NX), (ov, 3, nCells O), (.slice (some ⟨bx, 0, none⟩) 3 3, 24, [.string ⟨bI.toArray⟩, xv, ov]), (.slice (some ⟨sg, 0, none⟩) St.length sc, 86, sC G (D.length + 1))]) FR.out (i := i) (by rw [List.length_map]; exact hi)
           have hlr : (bC ((St.map (tk D.length))[i]'(by rw [List.length_map]; exact hi))).length = D.length + 1 := by rw [bC_len, List.getElem_map, tk_len hl (by rw [← gS_lt (z := plZ (D.map PD.p)) hi]; exact hVi.1)]
           have := ho.cellAt D.length (by omega)
           rw [this, List.getElem_map, ← gS_lt (z := plZ (D.map PD.p)) hi]
           have h65 := hVi.1
           simp [bC, tk, plF, List.getD_eq_getElem?_getD, show D.length < (gS (plZ (D.map PD.p)) St i).length by omega]
          have HO2 : Hid (∀ v : Nat, v = (if plF (gS (plZ (D.map PD.p)) St i) D.length then 1 else 0) → O ++ [v] = ofO D.length (St.take (i + 1))) := fun v hv => by
           rw [List.take_succ_eq_append_getElem hi, HO.out, hv, gS_lt hi]
           unfold ofO
           rw [List.map_append]
           rfl
          generalize plF (gS (plZ (D.map PD.p)) St i) D.length = fb at *
          generalize gN G i = gi at *
          have hnn : (D.length : Int) < (D.length : Int) + 1 := by omega
          have hOl : O.length ≤ 256 := by rw [HO.out, ofO_len, List.length_take]; omega
          clear HO hVi hGl S
          cases fb with
          | true =>
            have HO3 := hide (HO2.out 1 (by simp))
            obtain ⟨q1, q2, q3⟩ := FR.out.pre (i := 1) (by simp) rfl ((1 : Nat) : Int)
            have Q1 : Hid ((wr.alloc (.cells #[.int .i64 1] 3)).ownsRow w3.heap.size 3 1 ov O.length (nCells O)) := q1
            have Q2 : Hid (∀ (j : Nat) (u : Value), [Value.int .i64 1][j]? = some u → (wr.alloc (.cells #[.int .i64 1] 3)).cell? ((⟨wr.heap.size, 0, none⟩ : Addr).add j) = some u) := q2
            have Q3 : Hid (w3.heap.size ≤ (wr.alloc (.cells #[.int .i64 1] 3)).heap.size) := q3
            have HPU : Hid (∀ (g7 cap7 : Nat) (w7 : World), w7.ownsRow w3.heap.size 3 1 (.slice (some ⟨g7, 0, none⟩) (O.length + 1) cap7) (O.length + 1) (nCells O ++ [.int .i64 1]) → (wr.alloc (.cells #[.int .i64 1] 3)).grownBy w7 ov.ownBlock → (ov.ownBlock = some g7 ∨ g7 = (wr.alloc (.cells #[.int .i64 1] 3)).heap.size) → Fr w3 ((xv, 3, nCells NX) :: ((.slice (some ⟨g7, 0, none⟩) (O.length + 1) cap7), 3, nCells (O ++ [1])) :: (.slice (some ⟨bx, 0, none⟩) 3 3, 24, [.string ⟨bI.toArray⟩, xv, ov]) :: (.slice (some ⟨sg, 0, none⟩) St.length sc, 86, sC G (D.length + 1)) :: RR) w7) := fun g7 cap7 w7 h1 h2 h3 => by
             rw [nCells_snoc]
             have := FR.out.lies (al (Below.refl _ _) _) (i := 1) (by simp) rfl (g6 := g7) (cap6 := cap7) (x := .int .i64 ((1 : Nat) : Int)) (by rw [nCells_length]; exact h1) h2 h3
             rw [nCells_length] at this
             exact this
            obtain ⟨y0, y1⟩ := FR.out.slot (i := 2) (by simp) rfl (k := 2) (by simp)
            simp only [List.getElem_cons_succ, List.getElem_cons_zero] at y0
            clear q1 q2 q3
            go_upto_region 14 with (at_builtin; refine wpList_append_lies _ rfl (.tmp 83) (.tmp 85) 22 rfl w3.heap.size 3 i3 (.int .i64 0) 1 8 Tryz.underlying22 hi3 hz30 hz31 hz32 rfl (by decide) _ O.length (nCells O) rfl Q1.out ⟨wr.heap.size, 0, none⟩ 1 1 [(.int .i64 1)] rfl rfl Q2.out (by simp [Value.oneCell']) (by decide) (by unfold maxLen; omega) (by omega) Q3.out _ rfl ?_; intro g7 cap7 w7 k1 k2 k3 k4; have FZ7 := hide (HPU.out g7 cap7 w7 k1 k2 k3); obtain ⟨z0, z1⟩ := FZ7.out.slot (i := 2) (by simp) rfl (k := 2) (by simp); simp only [List.getElem_cons_succ, List.getElem_cons_zero] at z0; have FY : Hid (Fr w3 ((xv, 3, nCells NX) :: ((.slice (some ⟨g7, 0, none⟩) (O.length + 1) cap7), 3, nCells (O ++ [1])) :: (.slice (some ⟨bx, 0, none⟩) 3 3, 24, [.string ⟨bI.toArray⟩, xv, (.slice (some ⟨g7, 0, none⟩) (O.length + 1) cap7)]) :: (.slice (some ⟨sg, 0, none⟩) St.length sc, 86, sC G (D.length + 1)) :: RR) (w7.setCell ⟨bx, 2, none⟩ (.slice (some ⟨g7, 0, none⟩) (O.length + 1) cap7))) := (FZ7.out.store (i := 2) (by simp) rfl 2 _); clear k1 k2 k3 k4)
            clear Q1 Q2 Q3 HPU y0 y1 z0 z1 FZ7
            go_wp2
            go_roundg (257 - (i + 1) + 1)
            case measure => have := HG1.out; omega
            case rel => exact ⟨i + 1, St, NX, G, O ++ [1], _, _, RR, by first | rfl | go_num | (congr 1; omega), by omega, hS, FY, S2, I, HO3, by omega⟩
          | false =>
            have HO3 := hide (HO2.out 0 (by simp))
            obtain ⟨q1, q2, q3⟩ := FR.out.pre (i := 1) (by simp) rfl ((0 : Nat) : Int)
            have Q1 : Hid ((wr.alloc (.cells #[.int .i64 0] 3)).ownsRow w3.heap.size 3 1 ov O.length (nCells O)) := q1
            have Q2 : Hid (∀ (j : Nat) (u : Value), [Value.int .i64 0][j]? = some u → (wr.alloc (.cells #[.int .i64 0] 3)).cell? ((⟨wr.heap.size, 0, none⟩ : Addr).add j) = some u) := q2
            have Q3 : Hid (w3.heap.size ≤ (wr.alloc (.cells #[.int .i64 0] 3)).heap.size) := q3
            have HPU : Hid (∀ (g7 cap7 : Nat) (w7 : World), w7.ownsRow w3.heap.size 3 1 (.slice (some ⟨g7, 0, none⟩) (O.length + 1) cap7) (O.length + 1) (nCells O ++ [.int .i64 0]) → (wr.alloc (.cells #[.int .i64 0] 3)).grownBy w7 ov.ownBlock → (ov.ownBlock = some g7 ∨ g7 = (wr.alloc (.cells #[.int .i64 0] 3)).heap.size) → Fr w3 ((xv, 3, nCells NX) :: ((.slice (some ⟨g7, 0, none⟩) (O.length + 1) cap7), 3, nCells (O ++ [0])) :: (.slice (some ⟨bx, 0, none⟩) 3 3, 24, [.string ⟨bI.toArray⟩, xv, ov]) :: (.slice (some ⟨sg, 0, none⟩) St.length sc, 86, sC G (D.length + 1)) :: RR) w7) := fun g7 cap7 w7 h1 h2 h3 => by
             rw [nCells_snoc]
             have := FR.out.lies (al (Below.refl _ _) _) (i := 1) (by simp) rfl (g6 := g7) (cap6 := cap7) (x := .int .i64 ((0 : Nat) : Int)) (by rw [nCells_length]; exact h1) h2 h3
             rw [nCells_length] at this
             exact this
            obtain ⟨y0, y1⟩ := FR.out.slot (i := 2) (by simp) rfl (k := 2) (by simp)
            simp only [List.getElem_cons_succ, List.getElem_cons_zero] at y0
            clear q1 q2 q3
            go_upto_region 14 with (at_builtin; refine wpList_append_lies _ rfl (.tmp 83) (.tmp 85) 22 rfl w3.heap.size 3 i3 (.int .i64 0) 1 8 Tryz.underlying22 hi3 hz30 hz31 hz32 rfl (by decide) _ O.length (nCells O) rfl Q1.out ⟨wr.heap.size, 0, none⟩ 1 1 [(.int .i64 0)] rfl rfl Q2.out (by simp [Value.oneCell']) (by decide) (by unfold maxLen; omega) (by omega) Q3.out _ rfl ?_; intro g7 cap7 w7 k1 k2 k3 k4; have FZ7 := hide (HPU.out g7 cap7 w7 k1 k2 k3); obtain ⟨z0, z1⟩ := FZ7.out.slot (i := 2) (by simp) rfl (k := 2) (by simp); simp only [List.getElem_cons_succ, List.getElem_cons_zero] at z0; have FY : Hid (Fr w3 ((xv, 3, nCells NX) :: ((.slice (some ⟨g7, 0, none⟩) (O.length + 1) cap7), 3, nCells (O ++ [0])) :: (.slice (some ⟨bx, 0, none⟩) 3 3, 24, [.string ⟨bI.toArray⟩, xv, (.slice (some ⟨g7, 0, none⟩) (O.length + 1) cap7)]) :: (.slice (some ⟨sg, 0, none⟩) St.length sc, 86, sC G (D.length + 1)) :: RR) (w7.setCell ⟨bx, 2, none⟩ (.slice (some ⟨g7, 0, none⟩) (O.length + 1) cap7))) := (FZ7.out.store (i := 2) (by simp) rfl 2 _); clear k1 k2 k3 k4)
            clear Q1 Q2 Q3 HPU y0 y1 z0 z1 FZ7
            go_wp2
            go_roundg (257 - (i + 1) + 1)
            case measure => have := HG1.out; omega
            case rel => exact ⟨i + 1, St, NX, G, O ++ [0], _, _, RR, by first | rfl | go_num | (congr 1; omega), by omega, hS, FY, S2, I, HO3, by omega⟩
     · as_aux_lemma =>
       have hi' : ¬ (i : Int) < (St.length : Int) := by omega
       have hiE : i = St.length := by omega
       have HE := hide (S.out.done hi)
       have HOO : Hid (O = ofO D.length St) := by
        have := HO.out
        rw [hiE, List.take_length] at this
        exact this
       obtain ⟨sa, sc, hv⟩ := FR.out.shape (i := 3) (by simp) rfl
       rw [sC_len, I.out.1, List.length_map] at hv
       subst hv
       obtain ⟨xa, xc, hxv, KX⟩ := FR.out.nat (i := 0) (by simp) rfl
       obtain ⟨oa, oc, hov, KO⟩ := FR.out.nat (i := 1) (by simp) rfl
       subst hxv hov
       obtain ⟨c0, -⟩ := FR.out.slot (i := 2) (by simp) rfl (k := 0) (by simp)
       obtain ⟨c1, -⟩ := FR.out.slot (i := 2) (by simp) rfl (k := 1) (by simp)
       obtain ⟨c2, -⟩ := FR.out.slot (i := 2) (by simp) rfl (k := 2) (by simp)
       simp only [List.getElem_cons_succ, List.getElem_cons_zero] at c0 c1 c2
       have hMZ : MayZ bI (zN NX) (zN O) := by rw [HBI.out, HOO.out]; exact ofD_mayZ HE.out hS D.length
       have HMZ := hide hMZ
       have HLD := hide (leastD_any bI xa oa xc oc (zN NX) (zN O) wr (by rw [hMZ.2.2.2.1]; have h1 := hMZ.2.2.1; have h2 := mxL_lt bI; exact Nat.le_trans (Nat.mul_le_mul h1 (show mxL (ntL bI) + 1 ≤ 256 by omega)) (by decide)) (by have := hMZ.2.2.1; omega) KX.raw KO.raw)
       unfold auV at HLD
       rw [zN_len, zN_len] at HLD
       have XW := hide (HF3.out _ _ FR.out)
       have hlw : w.heap.size < wr.heap.size := Nat.lt_of_lt_of_le HL2.out XW.out.size
       clear S I HO FR KX KO hMZ
       go_wp2_with (fail)
       refine HLD.out.mono ?_
       rintro e w7 ⟨hP, x7⟩
       rcases hP with ⟨hno, _⟩ | ⟨NX', OU', e1, e2, hM, _, hO⟩
       · exact absurd HMZ.out hno
       obtain rfl := zN_inj e1
       obtain rfl := zN_inj e2
       obtain ⟨bs', ya, yn, yc, za, zn, zc, m, rfl⟩ := hO.shape
       have X7 := hide (bt XW.out x7 (Nat.le_refl _))
       have B7 := (HC.out w7 X7.out).1
       have A4 : Hid ((#[.string ⟨bs'.toArray⟩, .slice ya yn yc, .slice za zn zc] : Array Value).all (·.oneCell') = true) := by unfold Hid; simp [Value.oneCell']
       have HB7 := hide B7
       have B8 := setRow_heap w7 w.heap.size _ #[.string ⟨bs'.toArray⟩, .slice ya yn yc, .slice za zn zc] 24 (0, 0) B7
       have k8 : Kept (fun k => k = w.heap.size) w7 (w7.setRow w.heap.size #[.string ⟨bs'.toArray⟩, .slice ya yn yc, .slice za zn zc]) := kept_row
       have x8 := bt HX2.out X7.out (Nat.le_refl _)
       have X8 := hide (x8.trans (k8.below x8.size (fun b hb => by omega)))
       have HP8 := hide (hO.kept k8 hlw (show w.heap.size ≤ wr.heap.size by omega))
       have HPF : Hid (OfP (D.map PD.p) w.heap.size (.returned (.tuple #[.agg #[.string ⟨bs'.toArray⟩, .slice ya yn yc, .slice za zn zc], .int .i64 m])) (w7.setRow w.heap.size #[.string ⟨bs'.toArray⟩, .slice ya yn yc, .slice za zn zc])) := by
        have h1 := HP8.out
        rw [HBI.out, HOO.out] at h1
        refine ofD_done (L := (D.map PD.p)) (by rw [HML.out]; exact hl) HR.out HE.out hS ?_
        rw [HML.out]
        exact h1
       have z0 := cell_of_row _ _ 0 _ _ _ B8
       have z1 := cell_of_row _ _ 1 _ _ _ B8
       have z2 := cell_of_row _ _ 2 _ _ _ B8
       clear B8 k8 B7 x8 x7 hO HLD HP8 c0 c1 c2
       go_wp2_with (refine wpList_store_row rfl 24 (.tmp 2) (.tmp 90) rfl w.heap.size #[.string ⟨bs'.toArray⟩, .slice ya yn yc, .slice za zn zc] rfl rfl 24 #[.string ⟨#[]⟩, .slice none 0 0, .slice none 0 0] HB7.out HI.out rfl A4.out ?_)
       refine bodyPost_ret (by simp [results, Tryz.results21, go_sem, z0, z1, z2]; try rfl) rfl ?_
       exact ⟨HPF.out, X8.out⟩
end Go.Proofs.YtdgoilkgplnhfaaGreat
