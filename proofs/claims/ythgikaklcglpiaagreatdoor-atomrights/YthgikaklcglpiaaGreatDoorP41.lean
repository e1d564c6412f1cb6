/-
  What makes a test of methods, by its contract. Condition: at most 64 methods.
-/
import Derived.Test.YthgikaklcglpiaaGreatDoorP40
import Derived.Test.YthgikaklcglpiaaGreatDoorP05
import Derived.Test.YthgikaklcglpiaaGreatDoorP27
import Derived.Test.YthgikaklcglpiaaGreatDoorP26
import Derived.Test.YthgikaklcglpiaaGreatDoorP28
import Derived.Laws.BytesArg
import Derived.Test.YthgikaklcglpiaaGreatDoorP07
namespace Go.Proofs.YthgikaklcglpiaaGreatDoor.L9
open Go.RowKit Go.Lib Go.Sort

theorem info9s : (Tryz.prog.info? 9).map (fun i => (i.zero, i.size, i.bytes)) = some (some (.string ⟨#[]⟩), 1, 16) := by kernel_rfl
abbrev srt (L : List By) : List By := L.mergeSort fun x y => decide (x ≤ y)
theorem kept_put (w : World) (n g : Nat) (d : Array By) (os : Array Obj) : L5.Kept (fun k => k = g) w (grow (putRow encStr (Sort.ahead w n) g 0 d) os) := by
  refine ⟨rfl, rfl, rfl, by rw [size_grow, size_putRow]; exact Nat.le_add_right _ _, fun k hk hne => ?_⟩
  rw [heap_grow_old _ _ (by rw [size_putRow]; exact hk)]
  show (w.heap.modify g _)[k]? = _
  rw [Array.getElem?_modify, if_neg (fun h => hne h.symm)]
theorem sortT (w : World) (g cap : Nat) (L : List By) (hH : Holds encStr w g 0 L.toArray) (hg : g < w.heap.size) (hs : L.length < 4611686018427387904) :
    Calls Tryz.prog 116 #[.slice (some ⟨g, 0, none⟩) L.length cap] w fun e w' => e = .returned (.tuple #[]) ∧ Holds encStr w' g 0 (srt L).toArray ∧ L5.Kept (fun k => k = g) w w' := by
  refine (Tryz.slices_Sort_string g 0 cap L w hH hg hs).mono ?_
  rintro e w' ⟨rfl, n, os, rfl⟩
  refine ⟨rfl, ?_, kept_put w n g _ os⟩
  refine holds_grow encStr _ os g 0 _ (by rw [size_putRow]; exact hg) ?_
  exact holds_putRow encStr (Sort.ahead w n) g 0 L.toArray _ (holds_ahead encStr w n g 0 _ hH) (by simp)
theorem compT (w : World) (g cap : Nat) (L M : List By) (hM : Lib.compact L = M) (hl : M.length ≤ L.length) (hH : Holds encStr w g 0 L.toArray) (hs : L.length ≤ 9223372036854775807) (hc : L.length ≤ cap) :
    Calls Tryz.prog 117 #[.slice (some ⟨g, 0, none⟩) L.length cap] w fun e w' => e = .returned (.slice (some ⟨g, 0, none⟩) M.length cap) ∧ Holds encStr w' g 0 (M ++ List.replicate (L.length - M.length) []).toArray ∧ L5.Kept (fun k => k = g) w w' := by
  refine (Tryz.slices_Compact_string g 0 cap L w hH hs hc).mono ?_
  rintro e w' ⟨rfl, n, rfl⟩
  rw [hM]
  refine ⟨rfl, ?_, ?_⟩
  · exact holds_putRow encStr (Sort.ahead w n) g 0 L.toArray _ (holds_ahead encStr w n g 0 _ hH) (by simp; omega)
  · refine ⟨rfl, rfl, rfl, by rw [size_putRow]; exact Nat.le_refl _, fun k hk hne => ?_⟩
    show (w.heap.modify g _)[k]? = _
    rw [Array.getElem?_modify, if_neg (fun h => hne h.symm)]
def stV (L : List By) : List Value := L.map fun l => Value.string ⟨l.toArray⟩
theorem holds_own {w : World} {base g cap : Nat} {L : List By} (h : w.ownsRow base 9 1 (.slice (some ⟨g, 0, none⟩) L.length cap) L.length (stV L)) : Holds encStr w g 0 L.toArray ∧ g < w.heap.size ∧ base ≤ g ∧ L.length ≤ cap := by
  refine ⟨fun j hj => ⟨?_, h.frozenAt _⟩, (World.ownsRow.lt h g rfl).2, (World.ownsRow.lt h g rfl).1, ?_⟩
  · have hj' : j < L.length := by simpa using hj
    rw [Nat.zero_add, h.cellAt j (by omega)]
    simp [stV, hj']
  · rcases h.2 with ⟨e, _⟩ | ⟨g', cap', cur, e, _, _, hnc, _⟩
    · cases e
    · injection e with _ _ e
      omega
theorem stAt_holds {w : World} {g : Nat} {M : List By} {r : Nat} (h : Holds encStr w g 0 (M ++ List.replicate r []).toArray) (hg : g < w.heap.size) : L5.StAt w (some ⟨g, 0, none⟩) M := by
  refine .inr ⟨g, 0, rfl, hg, fun i hi => ?_⟩
  have := (h i (by simp; omega)).1
  rw [this]
  simp [List.getD_eq_getElem?_getD, List.getElem?_append_left hi, hi]
theorem app_below {w w1 w2 : World} {b : Nat} {v v' : Value} (h : Below b w w1) (q : AppAt w1 w2 v v') (hv : ∀ g, v.ownBlock = some g → b ≤ g) (hb : b ≤ w1.heap.size) : Below b w w2 := by
  rcases q with ⟨g, h1, _, h3⟩ | ⟨h3, _⟩
  · exact h.grown h3 hb (fun k hk => by cases hk; exact hv _ h1)
  · exact h.grown h3 hb (fun k hk => by cases hk)
set_option maxRecDepth 100000 in
set_option maxHeartbeats 2000000 in
theorem methods_mk {V : World} {P : Nat} {x0 x1 x2 x3 x4 x6 x7 : Value} {ao : Option Addr} {cap : Nat} {L M : List By} (hP : V.heap[P]? = some (.cells #[x0, x1, x2, x3, x4, .slice ao L.length cap, x6, x7] 117 (0, 0))) (hl : L.length ≤ 64) (h0 : 0 < L.length) (hat : L5.StAt V ao L) (hb : ∀ s ∈ L, s.length ≤ 140737488351232)
    (hM : Lib.compact (srt L) = M) (hml : M.length ≤ L.length) (hmb : ∀ s ∈ M, s.length ≤ 140737488351232) :
    Calls Tryz.prog 65 #[.pointer (some ⟨P, 0, none⟩)] V fun e w' => (∃ a : L5.AD, e = .returned (.tuple #[.agg a.cells, .bool true]) ∧ (a.nm = [] ∧ a.ns = M ∧ a.D = [] ∧ a.sp = []) ∧ AtF w' V.heap.size a) ∧ Below V.heap.size V w' := by
  obtain ⟨ie, hie, hz0, hz1, hz2⟩ := info_parts info9s
  have X0 := hide (show Below V.heap.size V (V.alloc (.cells #[.int .i64 0, .string ⟨#[]⟩, .slice none 0 0, .slice none 0 0, .slice none 0 0] 35)) from al (Below.refl _ _) _)
  have B0 := hide (heap_alloc_new V (.cells #[.int .i64 0, .string ⟨#[]⟩, .slice none 0 0, .slice none 0 0, .slice none 0 0] 35))
  have BP := hide ((X0.out.block P (lt_of_block hP)).trans hP)
  have HAT := hide (hat.below X0.out)
  have HLL := hide hl
  have HL0 := hide h0
  have HB := hide hb
  have HMS := hide (And.intro hM (And.intro hml hmb))
  clear hat hb hP hM hml hmb hl h0
  obtain ⟨R, hR⟩ : ∃ R, R = V.heap.size := ⟨_, rfl⟩
  have HRW : Hid (V.heap.size ≤ R) := by unfold Hid; omega
  go_enter Tryz.func65, Tryz.ntmps65
  go_upto_region 1 with fail
  rw [← hR] at B0 ⊢
  have HRE := hide hR
  clear hR
  generalize V.alloc (.cells #[.int .i64 0, .string ⟨#[]⟩, .slice none 0 0, .slice none 0 0, .slice none 0 0] 35) = W at *
  have r4 : W.cell? ⟨P, 5, none⟩ = some (.slice ao L.length cap) := by rw [cell_of_row _ _ _ _ _ _ BP.out]; rfl
  go_wp2
  clear r4 BP
  go_loopg [4, 6, 13] (L.length + 1) (fun g v x6 x wr => ∃ k : Nat, x = .int .i64 (k : Nat) ∧ Hid (wr.ownsRow W.heap.size 9 1 v k (stV (L.take k))) ∧ Hid (Below W.heap.size W wr) ∧ k ≤ L.length ∧ L.length - k < g)
  case atStart => exact ⟨0, rfl, hide (World.ownsRow_nil _ _ _ _), hide (Below.refl _ _), by omega, by omega⟩
  case round =>
    obtain ⟨k, rfl, HO, X, hk1, hg⟩ := hrel
    have HG := hide hg
    clear hg
    by_cases hk : k < L.length
    · have hk' : (k : Int) < (L.length : Int) := by omega
      obtain ⟨pa, oa, rfl, _, ca⟩ := (HAT.out.below X.out).get hk
      have a0 := ca k hk
      have HK := hide hk
      have fw : wrap64 ((k : Int) + 1) = ((k + 1 : Nat) : Int) := by have := HLL.out; unfold wrap64; omega
      have HGE : Hid (L.getD k [] = L[k]) := by unfold Hid; rw [List.getD_eq_getElem?_getD, List.getElem?_eq_getElem hk]; rfl
      have HTK : Hid (stV (L.take k) ++ [.string ⟨(L.getD k []).toArray⟩] = stV (L.take (k + 1))) := by
        unfold Hid stV
        rw [List.take_add_one, List.getElem?_eq_getElem hk, HGE.out, List.map_append]
        rfl
      have HCL := hide (clone_any ⟨(L.getD k []).toArray⟩ wr (by rw [L5.size_by]; have := HB.out (L.getD k []) (by rw [HGE.out]; exact List.getElem_mem hk); omega))
      obtain ⟨y, hy⟩ : ∃ y, y = L.getD k [] := ⟨_, rfl⟩
      rw [← hy] at a0 HTK HCL
      clear ca hk hk1 hy HGE
      obtain ⟨av, cv, rfl, _⟩ := own_shape HO.out
      go_wp2_with (fail)
      refine HCL.out.mono ?_
      rintro e w1 ⟨rfl, x1⟩
      have O1 := hide (own_below HO.out x1)
      have X1 := hide (bt X.out x1 (Nat.le_refl _))
      clear x1 HO X HCL
      have XA := hide (show Below w1.heap.size w1 (w1.alloc (.cells #[.string ⟨y.toArray⟩] 9)) from al (Below.refl _ _) _)
      have O2 := hide (own_below O1.out XA.out)
      have X2 := hide (bt X1.out XA.out (Nat.le_refl _))
      have HN : Hid (∀ j u, ([.string ⟨y.toArray⟩] : List Value)[j]? = some u → (w1.alloc (.cells #[.string ⟨y.toArray⟩] 9)).cell? ((⟨w1.heap.size, 0, none⟩ : Addr).add j) = some u) := by
        intro j u hu
        match j, hu with
        | 0, hu => simp at hu; subst hu; simp [Addr.add]
      have HK64 : Hid (k + 1 ≤ 64) := by have := HK.out; have := HLL.out; unfold Hid; omega
      go_wp2_with (at_builtin; refine wpList_append_view rfl (.tmp 17) (.tmp 20) 24 rfl W.heap.size 9 ie (.string ⟨#[]⟩) 1 16 Tryz.underlying24 hie hz0 hz1 hz2 rfl (by decide) _ k _ rfl O2.out ⟨w1.heap.size, 0, none⟩ 1 1 [.string ⟨y.toArray⟩] rfl rfl HN.out (by simp [Value.oneCell']) (by decide) (by have := HK64.out; unfold maxLen; omega) (by have := HK64.out; omega) X2.out.size ?_; intro v6 w6 q1 q2; rw [HTK.out] at q1; have Q1 := hide q1; have Q2 := hide (app_below X2.out q2 (fun g hg => (World.ownsRow.lt O2.out g hg).1) X2.out.size); clear q1 q2)
      go_roundg (L.length - (k + 1) + 1)
      case measure => have := HG.out; have := HK.out; omega
      case rel => exact ⟨k + 1, by first | rfl | (rw [fw]) | go_num | (congr 1; omega), Q1, Q2, by have := HK.out; omega, by omega⟩
    · have hk' : ¬ (k : Int) < (L.length : Int) := by omega
      obtain rfl : k = L.length := by omega
      rw [List.take_length] at HO
      obtain ⟨av, cv, rfl, hav⟩ := own_shape HO.out
      obtain ⟨g, rfl⟩ := hav HL0.out
      obtain ⟨hH, hg, hbg, hcp⟩ := holds_own HO.out
      have BR := hide ((X.out.block R (lt_of_block B0.out)).trans B0.out)
      have HGR : Hid (R < g ∧ R < W.heap.size) := ⟨by have := lt_of_block B0.out; omega, lt_of_block B0.out⟩
      have HSR := hide (sortT wr g cv L hH hg (by have := HLL.out; omega))
      have HBG : Hid (W.heap.size ≤ g ∧ g < wr.heap.size ∧ L.length ≤ cv) := ⟨hbg, hg, hcp⟩
      clear hH hg hbg hcp hk1 B0 HAT HG hk
      go_wp2_with (go_at_call 116; refine HSR.out.mono ?_; rintro e w1 ⟨rfl, H1, K1⟩; have HH1 := hide H1; have HK1 := hide K1; have B1 := hide ((K1.block R (lt_of_block BR.out) (by have := HGR.out; omega)).trans BR.out); clear H1 K1 BR HSR)
      have hsl : (srt L).length = L.length := by simp [srt]
      have HCC := hide (compT w1 g cv (srt L) M HMS.out.1 (by rw [hsl]; exact HMS.out.2.1) HH1.out (by rw [hsl]; have := HLL.out; omega) (by rw [hsl]; exact HBG.out.2.2))
      rw [hsl] at HCC
      clear hsl
      refine HCC.out.mono ?_
      rintro e w2 ⟨rfl, h2, k2⟩
      have B2 := hide ((k2.block R (lt_of_block B1.out) (by have := HGR.out; omega)).trans B1.out)
      have HFIN : Hid (∀ U, L5.Kept (fun k => k = R) w2 U → (∃ a : L5.AD, (.returned (.tuple #[.agg #[.int .i64 0, .string ⟨#[]⟩, .slice none 0 0, .slice (some ⟨g, 0, none⟩) M.length cv, .slice none 0 0], .bool true]) : Ending) = .returned (.tuple #[.agg a.cells, .bool true]) ∧ (a.nm = [] ∧ a.ns = M ∧ a.D = [] ∧ a.sp = []) ∧ AtF U V.heap.size a) ∧ Below V.heap.size V U) := fun U hk => by
        have hlt := HGR.out
        have hl := HLL.out
        have hbg := HBG.out
        have hms := HMS.out
        have hrw := HRW.out
        have hz1 := HK1.out.size
        have hz2 := k2.size
        have hz3 := hk.size
        have hx := X0.out.size
        have hst := StAt_kept (stAt_holds h2 (by omega)) hk (fun a ha f => by cases ha; have f : g = R := f; omega)
        refine ⟨⟨⟨0, [], [], none, 0, M, some ⟨g, 0, none⟩, cv, [], none, 0⟩, rfl, ⟨rfl, rfl, rfl, rfl⟩, ⟨⟨.inl rfl, hst, .inl rfl, by simp, ?_, by simp, fun d hd => (by cases hd), by simp, hms.2.2⟩, fun a ha => (by cases ha), fun a ha => ?_, rfl⟩⟩, ?_⟩
        · show M.length ≤ _; omega
        · cases ha; exact ⟨by show _ ≤ g; omega, by show g < _; omega⟩
        · refine (bt X0.out X.out (Nat.le_refl _)).trans ?_
          exact ((HK1.out.below (by omega) (fun i hi => by rw [hi]; omega)).trans (k2.below (by omega) (fun i hi => by rw [hi]; omega))).trans (hk.below (by omega) (fun i hi => by rw [hi]; omega))
      clear h2 k2 HCC HMS HH1 HK1 B1 HO X HBG HGR HB HLL HL0 X0
      generalize M.length = lM at *
      obtain ⟨s0, s1, s2, s3, s4⟩ := L5.five_of B2.out
      have f0 := frozen_of_row w2 R 0 _ _ B2.out
      have f1 := frozen_of_row w2 R 1 _ _ B2.out
      have f2 := frozen_of_row w2 R 2 _ _ B2.out
      have f3 := frozen_of_row w2 R 3 _ _ B2.out
      have f4 := frozen_of_row w2 R 4 _ _ B2.out
      go_wp2
      refine bodyPost_ret (v := .tuple #[.agg #[.int .i64 0, .string ⟨#[]⟩, .slice none 0 0, .slice (some ⟨g, 0, none⟩) lM cv, .slice none 0 0], .bool true]) ?_ rfl ?_
      · rw [results_cell_tmp rfl]
        go_simp
      · exact HFIN.out _ ((((((L5.Kept.refl (fun k => k = R) w2).setCell (p := ⟨R, 0, none⟩) rfl _).setCell (p := ⟨R, 1, none⟩) rfl _).setCell (p := ⟨R, 2, none⟩) rfl _).setCell (p := ⟨R, 3, none⟩) rfl _).setCell (p := ⟨R, 4, none⟩) rfl _)
end Go.Proofs.YthgikaklcglpiaaGreatDoor.L9
/-
  A request's path is right, by contract. No condition.
-/
namespace Go.Proofs.YthgikaklcglpiaaGreatDoor.L9
open Go.RowKit Go.Lib

set_option maxRecDepth 100000 in
set_option maxHeartbeats 2000000 in
theorem runesc (w : World) : Calls Tryz.prog 154 #[.string ⟨#[47]⟩] w fun e w' => (∃ g c, e = .returned (.slice (some ⟨g, 0, none⟩) 1 c) ∧ w'.ownsRow w.heap.size 5 1 (.slice (some ⟨g, 0, none⟩) 1 c) 1 [.int .u8 47]) ∧ Below w.heap.size w w' := by
  obtain ⟨i5, hi5, hz50, hz51, hz52⟩ := info_parts Tryz.info5n
  go_enter Tryz.func154, Tryz.ntmps154
  go_wp2_with (at_make; refine wpList_make_own _ rfl (.const (.int .i64 0)) (.tmp 9) 86 rfl w.heap.size 5 i5 (.int .u8 0) 1 Tryz.underlying86 hi5 hz50 hz51 .i64 .i64 1 1 rfl rfl rfl (by rw [hz52]; decide) (by decide) (Nat.le_refl _) ?_; intro w1 h1 h2; have O1 := hide h1; have X1 := hide (below_of_grown h2); clear h1 h2)
  generalize hv : Value.slice (some ⟨w.heap.size, 0, none⟩) 0 1 = v0 at *
  go_loopg [3, 4] 2 (fun g v x wr => Hid (Below w.heap.size w wr) ∧ ((x = .int .i64 0 ∧ Hid (wr.ownsRow w.heap.size 5 1 v 0 []) ∧ 1 < g) ∨ (x = .int .i64 1 ∧ Hid (wr.ownsRow w.heap.size 5 1 v 1 [.int .u8 47]) ∧ 0 < g)))
  case atStart => exact ⟨X1, .inl ⟨rfl, O1, by omega⟩⟩
  case round =>
    clear X1 O1 hv
    obtain ⟨X, ⟨rfl, HO, hg⟩ | ⟨rfl, HO, hg⟩⟩ := hrel
    · obtain ⟨av, cv, rfl, _⟩ := own_shape HO.out
      have XA := hide (show Below wr.heap.size wr (wr.alloc (.cells #[.int .u8 47] 5)) from al (Below.refl _ _) _)
      have O2 := hide (own_below HO.out XA.out)
      have X2 := hide (bt X.out XA.out (Nat.le_refl _))
      have HN : Hid (∀ j u, ([.int .u8 47] : List Value)[j]? = some u → (wr.alloc (.cells #[.int .u8 47] 5)).cell? ((⟨wr.heap.size, 0, none⟩ : Addr).add j) = some u) := by
        intro j u hu
        match j, hu with
        | 0, hu => simp at hu; subst hu; simp [Addr.add]
      have HG := hide hg
      clear hg HO X
      go_wp2_with (first | (go_at_call 101; refine (rmust _).mono ?_; rintro e w1 ⟨rfl, hw⟩; have hw2 := hw.symm; clear hw; subst hw2) | (at_builtin; refine wpList_append_view rfl (.tmp 32) (.tmp 36) 86 rfl w.heap.size 5 i5 (.int .u8 0) 1 1 Tryz.underlying86 hi5 hz50 hz51 hz52 rfl (by decide) _ 0 _ rfl O2.out ⟨wr.heap.size, 0, none⟩ 1 1 [.int .u8 47] rfl rfl HN.out (by simp [Value.oneCell']) (by decide) (by unfold maxLen; omega) (by omega) X2.out.size ?_; intro v6 w6 q1 q2; have Q1 := hide q1; have Q2 := hide (app_below X2.out q2 (fun g hg => (World.ownsRow.lt O2.out g hg).1) X2.out.size); clear q1 q2))
      go_roundg 1
      case measure => have := HG.out; omega
      case rel => exact ⟨Q2, .inr ⟨by first | rfl | go_num, Q1, by omega⟩⟩
    · obtain ⟨av, cv, rfl, hh⟩ := own_shape HO.out
      obtain ⟨g, rfl⟩ := hh (by decide)
      go_wp2
      go_ret
      exact ⟨⟨g, cv, rfl, HO.out⟩, X.out⟩
set_option maxRecDepth 100000 in
theorem rend {w : World} {g c : Nat} (h : 1 ≤ c) (hc : c ≤ 9223372036854775807) : Calls Tryz.prog 211 #[.slice (some ⟨g, 0, none⟩) 1 c, .int .i64 1] w fun e w' => e = .returned (.int .i64 1) ∧ w' = w := by
  have h1c := h
  have h2c := hc
  clear h hc
  have H1 := hide (Tryz.bytes_IndexByte_at ⟨g, 1, none⟩ 0 (c - 1) [] 47 w rfl (fun i hi => by omega))
  have H0 := hide (Tryz.bytes_IndexByte_at ⟨g, 0, none⟩ 0 0 [] 47 w rfl (fun i hi => by omega))
  rw [show Lib.indexByte (Lib.bytesOf []) (47 : Int).toNat.toUInt8 = -1 from by decide] at H1 H0
  go_enter Tryz.func211, Tryz.ntmps211
  go_wp2_with (fail)
  · refine H0.out.mono ?_
    rintro e w1 ⟨rfl, rfl⟩
    go_wp2
    go_ret
    exact ⟨rfl, rfl⟩
  · refine H1.out.mono ?_
    rintro e w1 ⟨rfl, rfl⟩
    go_wp2
    go_ret
    exact ⟨rfl, rfl⟩
set_option maxRecDepth 100000 in
set_option maxHeartbeats 2000000 in
theorem rfold {w : World} {base g c : Nat} (h : w.ownsRow base 5 1 (.slice (some ⟨g, 0, none⟩) 1 c) 1 [.int .u8 47]) : Calls Tryz.prog 153 #[.slice (some ⟨g, 0, none⟩) 1 c] w fun e w' => e = .returned (.string ⟨#[47]⟩) ∧ w' = w := by
  have hc : 1 ≤ c ∧ c ≤ 9223372036854775807 := by
    rcases h.2 with ⟨e, _⟩ | ⟨g', cap', cur, e, _, _, hnc, hcm, _⟩
    · cases e
    · injection e with _ _ e
      unfold maxLen at hcm
      omega
  obtain ⟨hc1, hc2⟩ := hc
  have HE := hide (rend (w := w) (g := g) hc1 hc2)
  have HC := hide hc2
  have V1 : (convert 86 9 (.slice (some ⟨g, 1, none⟩) 0 (c - 1))).run Tryz.prog w = .ok (.string ⟨#[]⟩) w := run_convert_bytes_arg w 86 5 Tryz.underlying86 Tryz.underlying5 g 1 0 (c - 1) [] rfl (fun i hi => by omega) 9 Tryz.underlying9
  have V0 : (convert 86 9 (.slice (some ⟨g, 0, none⟩) 0 0)).run Tryz.prog w = .ok (.string ⟨#[]⟩) w := run_convert_bytes_arg w 86 5 Tryz.underlying86 Tryz.underlying5 g 0 0 0 [] rfl (fun i hi => by omega) 9 Tryz.underlying9
  clear h hc2
  rcases (by omega : c = 1 ∨ 2 ≤ c) with rfl | hc3
  · have hc9 := V1
    clear hc9
    go_enter Tryz.func153, Tryz.ntmps153
    go_wp2
    go_loopg [3, 4, 5, 6] 2 (fun g5 x3 x x5 x6 wr => wr = w ∧ x3 = .slice (some ⟨g, 0, none⟩) 0 1 ∧ ((x = .int .i64 0 ∧ 1 < g5) ∨ (x = .int .i64 1 ∧ 0 < g5)))
    case atStart => exact ⟨rfl, rfl, .inl ⟨rfl, by omega⟩⟩
    case round =>
      obtain ⟨hw, rfl, ⟨rfl, hg⟩ | ⟨rfl, hg⟩⟩ := hrel
      · have hw2 := hw.symm
        clear hw
        subst hw2
        have HG := hide hg
        clear hg
        go_wp2_with (go_at_call 211; refine HE.out.mono ?_; rintro e w1 ⟨rfl, hw⟩; have hw2 := hw.symm; clear hw; subst hw2)
        go_roundg 1
        case measure => have := HG.out; omega
        case rel => exact ⟨rfl, rfl, .inr ⟨by first | rfl | go_num, by omega⟩⟩
      · have hw2 := hw.symm
        clear hw
        subst hw2
        go_wp2
        go_ret
        exact ⟨rfl, rfl⟩
  · have hn1 : ¬ c = 1 := by omega
    have hn2 : ¬ c - 1 = 0 := by omega
    clear V0 hc3
    go_enter Tryz.func153, Tryz.ntmps153
    go_wp2
    go_loopg [3, 4, 5, 6] 2 (fun g5 x3 x x5 x6 wr => wr = w ∧ x3 = .slice (some ⟨g, 0, none⟩) 0 c ∧ ((x = .int .i64 0 ∧ 1 < g5) ∨ (x = .int .i64 1 ∧ 0 < g5)))
    case atStart => exact ⟨rfl, rfl, .inl ⟨rfl, by omega⟩⟩
    case round =>
      obtain ⟨hw, rfl, ⟨rfl, hg⟩ | ⟨rfl, hg⟩⟩ := hrel
      · have hw2 := hw.symm
        clear hw
        subst hw2
        have HG := hide hg
        clear hg
        go_wp2_with (go_at_call 211; refine HE.out.mono ?_; rintro e w1 ⟨rfl, hw⟩; have hw2 := hw.symm; clear hw; subst hw2)
        go_roundg 1
        case measure => have := HG.out; omega
        case rel => exact ⟨rfl, rfl, .inr ⟨by first | rfl | go_num, by omega⟩⟩
      · have hw2 := hw.symm
        clear hw
        subst hw2
        go_wp2
        go_ret
        exact ⟨rfl, rfl⟩
end Go.Proofs.YthgikaklcglpiaaGreatDoor.L9
/-
  The request of awake is right, by contract. No condition.
-/
namespace Go.Proofs.YthgikaklcglpiaaGreatDoor.L9
open Go.RowKit Go.Lib

set_option maxRecDepth 100000 in
set_option maxHeartbeats 2000000 in
theorem rpath (w : World) : Calls Tryz.prog 104 #[.string ⟨#[47]⟩] w fun e w' => e = .returned (.string ⟨#[47]⟩) ∧ Below w.heap.size w w' := by
  have HU := hide (runesc w)
  go_enter Tryz.func104, Tryz.ntmps104
  go_wp2_with (first | (go_at_call 101; refine (rmust _).mono ?_; rintro e w1 ⟨rfl, hw⟩; have hw2 := hw.symm; clear hw; subst hw2) | (go_at_call 154; refine HU.out.mono ?_; rintro e w2 ⟨⟨g, c, rfl, hO⟩, x2⟩; have HF := hide (rfold hO); have X2 := hide x2; clear hO x2) | (go_at_call 153; refine HF.out.mono ?_; rintro e w3 ⟨rfl, hw⟩; have hw2 := hw.symm; clear hw; subst hw2))
  go_ret
  exact ⟨rfl, X2.out⟩
set_option maxRecDepth 100000 in
set_option maxHeartbeats 2000000 in
theorem rbeRight (w : World) : Calls Tryz.prog 57 #[.agg #[.string ⟨#[71, 69, 84]⟩, .string ⟨#[47]⟩, .int .i64 0, .int .i64 85, .slice none 0 0]] w fun e w' => e = .returned (.tuple #[]) ∧ Below w.heap.size w w' := by
  obtain ⟨W, hW⟩ : ∃ W, W = w.alloc (.cells #[.string ⟨#[71, 69, 84]⟩, .string ⟨#[47]⟩, .int .i64 0, .int .i64 85, .slice none 0 0] 52) := ⟨_, rfl⟩
  have XW := hide (show Below w.heap.size w W by rw [hW]; exact al (Below.refl _ _) _)
  have B0 := hide (show W.heap[w.heap.size]? = some (.cells #[.string ⟨#[71, 69, 84]⟩, .string ⟨#[47]⟩, .int .i64 0, .int .i64 85, .slice none 0 0] 52 (0, 0)) by rw [hW]; exact heap_alloc_new w _)
  obtain ⟨P, hP⟩ : ∃ P, P = w.heap.size := ⟨_, rfl⟩
  have HSF : Hid (∀ V : World, V.heap[P]? = some (.cells #[.string ⟨#[71, 69, 84]⟩, .string ⟨#[47]⟩, .int .i64 0, .int .i64 85, .slice none 0 0] 52 (0, 0)) → V.cell? ⟨P, 0, none⟩ = some (.string ⟨#[71, 69, 84]⟩) ∧ V.cell? ⟨P, 1, none⟩ = some (.string ⟨#[47]⟩) ∧ V.cell? ⟨P, 2, none⟩ = some (.int .i64 0) ∧ V.cell? ⟨P, 3, none⟩ = some (.int .i64 85) ∧ V.cell? ⟨P, 4, none⟩ = some (.slice none 0 0)) := fun V h => by
    refine ⟨?_, ?_, ?_, ?_, ?_⟩ <;> (rw [cell_of_row _ _ _ _ _ _ h]; rfl)
  go_enter Tryz.func57, Tryz.ntmps57
  go_upto_region 1 with fail
  rw [← hW, ← hP]
  rw [← hP] at B0
  clear hW hP
  obtain ⟨c0, c1, c2, c3, c4⟩ := HSF.out W B0.out
  go_wp2_with (first | (go_at_call 101; refine (rmust _).mono ?_; rintro e w1 ⟨rfl, hw⟩; have hw2 := hw.symm; clear hw; subst hw2) | (go_at_call 100; refine (rmethGET _).mono ?_; rintro e w1 ⟨rfl, hw⟩; have hw2 := hw.symm; clear hw; subst hw2))
  clear c0 c1 c2 c3 c4
  go_loopg [33] 1 (fun g x wr => x = .int .i64 0 ∧ wr = W ∧ 0 < g)
  case atStart => exact ⟨rfl, rfl, by omega⟩
  case round =>
    obtain ⟨rfl, hw, hg⟩ := hrel
    have hw2 := hw.symm
    clear hw
    subst hw2
    go_upto_region 12 with fail
    refine wp_unt (S := fun V => V.cell? ⟨P, 1, none⟩ = some (.string ⟨#[47]⟩)) 6 (by kernel_rfl) ?_
    have XD : Hid (Below W.heap.size W W.drew) := (Below.refl _ _).drew
    have B1 := hide ((XD.out.block P (lt_of_block B0.out)).trans B0.out)
    have X1 := hide (bt XW.out XD.out (Nat.le_refl _))
    have HS0 : Hid (W.drew.cell? ⟨P, 1, none⟩ = some (.string ⟨#[47]⟩)) := (HSF.out _ B1.out).2.1
    clear XD B0 XW
    generalize W.drew = V at *
    refine UntH.take (i := 0) (some 68) rfl rfl (by kernel_rfl) (by kernel_rfl) (by kernel_rfl) (by kernel_rfl) (fun _ _ _ _ h => h) (by rfl) HS0.out ?_
    apply Exists.intro
    refine ⟨fun w' hw' => ?_, ?_⟩
    · have q1 := hw'
      go_simp
      first | done | rfl
    try simp only [Act.put, List.setIfInBounds_toArray, List.set_cons_zero, List.set_cons_succ]
    refine UntH.take (i := 1) (some 69) rfl rfl (by kernel_rfl) (by kernel_rfl) (by kernel_rfl) (by kernel_rfl) (fun _ _ _ _ h => h) (by rfl) HS0.out ?_
    apply Exists.intro
    refine ⟨fun w' hw' => ?_, ?_⟩
    · have q1 := hw'
      go_simp
      first | done | rfl
    try simp only [Act.put, List.setIfInBounds_toArray, List.set_cons_zero, List.set_cons_succ]
    refine UntH.take (i := 3) (some 71) rfl rfl (by kernel_rfl) (by kernel_rfl) (by kernel_rfl) (by kernel_rfl) (fun _ _ _ _ h => h) (by rfl) HS0.out ?_
    apply Exists.intro
    refine ⟨fun w' hw' => ?_, ?_⟩
    · have q1 := hw'
      go_simp
      first | done | rfl
    try simp only [Act.put, List.setIfInBounds_toArray, List.set_cons_zero, List.set_cons_succ]
    refine UntH.take (i := 4) (some 72) rfl rfl (by kernel_rfl) (by kernel_rfl) (by kernel_rfl) (by kernel_rfl) (fun _ _ _ _ h => h) (by rfl) HS0.out ?_
    apply Exists.intro
    refine ⟨fun w' hw' => ?_, ?_⟩
    · have q1 := hw'
      go_simp
      first | done | rfl
    try simp only [Act.put, List.setIfInBounds_toArray, List.set_cons_zero, List.set_cons_succ]
    refine UntH.step (i := 2) (by kernel_rfl) rfl (fun K hK => ?_)
    go_simp
    refine (rpath V).mono ?_
    rintro e w2 ⟨rfl, x2⟩
    have B2 := hide ((x2.block P (lt_of_block B1.out)).trans B1.out)
    have X2 := hide (bt X1.out x2 (Nat.le_refl _))
    have HS2 : Hid (w2.cell? ⟨P, 1, none⟩ = some (.string ⟨#[47]⟩)) := (HSF.out _ B2.out).2.1
    refine hK _ _ HS2.out ?_
    clear hK K x2 B1 X1 HS0
    try simp only [Act.put, List.setIfInBounds_toArray, List.set_cons_zero, List.set_cons_succ]
    refine UntH.take (i := 5) (some 73) rfl rfl (by kernel_rfl) (by kernel_rfl) (by kernel_rfl) (by kernel_rfl) (fun _ _ _ _ h => h) (by rfl) HS2.out ?_
    apply Exists.intro
    refine ⟨fun w' hw' => ?_, ?_⟩
    · have q1 := hw'
      go_simp
      first | done | rfl
    try simp only [Act.put, List.setIfInBounds_toArray, List.set_cons_zero, List.set_cons_succ]
    refine UntH.last (by kernel_rfl) rfl (by kernel_rfl) (by kernel_rfl) (fun K hK => ?_)
    go_simp
    refine (rmust _).mono ?_
    rintro e w3 ⟨rfl, hw⟩
    have hw2 := hw.symm
    clear hw
    subst hw2
    refine hK _ _ ?_
    clear hK K
    go_wp2
    go_end0
    exact ⟨rfl, X2.out⟩
end Go.Proofs.YthgikaklcglpiaaGreatDoor.L9
