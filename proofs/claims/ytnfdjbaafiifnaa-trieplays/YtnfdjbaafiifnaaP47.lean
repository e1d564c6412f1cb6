/-
  The steps of a script that map each label to another one, and that tell rows twice. Condition: few lists in the book.
-/
import Derived.Test.YtnfdjbaafiifnaaP46
namespace Go.Proofs.Ytnfdjbaafiifnaa
open Go.RowKit Go.Lib

theorem Try.info3n : (Try.prog.info? 3).map (fun i => (i.zero, i.size, i.bytes)) = some (some (.int .i64 0), 1, 8) := by kernel_rfl
/-- The labels that Each hands in. -/
def eL (N : Int) (i : Nat) : Nat := pkZ ((i + pkZ N 65536 : Nat) : Int) 65536 / 3
def EL (N : Int) (i : Nat) : List Int := (List.range i).map fun j => ((eL N j : Nat) : Int)
theorem EL_length (N : Int) (i : Nat) : (EL N i).length = i := by simp [EL]
theorem EL_succ (N : Int) (i : Nat) : EL N (i + 1) = EL N i ++ [((eL N i : Nat) : Int)] := by simp [EL, List.range_succ]
theorem izC_append (L M : List Int) : izC (L ++ M) = izC L ++ izC M := by simp [izC]
theorem OwnI.any {w : World} {base : Nat} {v : Value} {L : List Int} (h : OwnI w base v L) : ∃ ao cap, v = .slice ao L.length cap ∧ ZAt w ao L ∧ ∀ b off, ao = some ⟨b, off, none⟩ → base ≤ b := by
  rcases h.2 with ⟨rfl, hn⟩ | ⟨g, cap, cur, rfl, hb, hg, hnc, _⟩
  · refine ⟨none, 0, by rw [hn], .inl (List.eq_nil_of_length_eq_zero hn), fun b off e => by cases e⟩
  · refine ⟨_, cap, rfl, .inr ⟨g, 0, rfl, lt_of_block hg, fun i hi => ?_⟩, fun b off e => by cases e; exact hb⟩
    have := World.ownsRow.cellAt h i (by omega)
    rw [Nat.zero_add, this]
    simp [izC, hi]
theorem one_new3 (w : World) (x : Value) (j : Nat) (u : Value) (hu : ([x] : List Value)[j]? = some u) : (w.alloc (.cells #[x] 3)).cell? ((⟨w.heap.size, 0, none⟩ : Addr).add j) = some u := by
  match j, hu with
  | 0, hu => simp at hu; subst hu; simp [Addr.add]
theorem StP.mono {w w' : World} {base xb tb rb bb m m' : Nat} (h : StP w base xb tb rb bb m w') (hm : m ≤ m') : StP w base xb tb rb bb m' w' := ⟨h.sd, h.bk.mono hm, h.kept⟩
set_option maxRecDepth 100000 in
set_option maxHeartbeats 2000000 in
theorem stepEach {w : World} {base xb tb rb bb m : Nat} {T : Tr} (on N a k : Int) (la ra : Option Addr) (ll lc rl rc : Nat) (h : SdAt w xb tb rb T) (hb : Bk w base bb m) (hN : Fit N) :
    Calls Try.prog 12 #[.pointer (some ⟨xb, 0, none⟩), .agg #[.int .i64 7, .int .i64 on, .int .i64 N, .int .i64 a, .int .i64 k, .slice la ll lc, .slice ra rl rc], .pointer (some ⟨bb, 0, none⟩)] w fun e w' => e = .returned (.bool true) ∧ StP w base xb tb rb bb m w' := by
  obtain ⟨W, hW⟩ : ∃ W, W = w.alloc (.cells #[.int .i64 7, .int .i64 on, .int .i64 N, .int .i64 a, .int .i64 k, .slice la ll lc, .slice ra rl rc] 46) := ⟨_, rfl⟩
  have XW := hide (show Below w.heap.size w W by rw [hW]; exact al (Below.refl _ _) _)
  have HP := hide (show W.heap[w.heap.size]? = some (.cells #[.int .i64 7, .int .i64 on, .int .i64 N, .int .i64 a, .int .i64 k, .slice la ll lc, .slice ra rl rc] 46 (0, 0)) by rw [hW]; exact heap_alloc_new w _)
  obtain ⟨P, hP⟩ : ∃ P, P = w.heap.size := ⟨_, rfl⟩
  rw [← hP] at HP
  have S1 := hide (h.below XW.out)
  have B1 := hide (hb.below XW.out)
  have p0 : W.cell? ⟨P, 0, none⟩ = some (.int .i64 7) := by rw [cell_of_row _ _ _ _ _ _ HP.out]; rfl
  have p2 : W.cell? ⟨P, 2, none⟩ = some (.int .i64 N) := by rw [cell_of_row _ _ _ _ _ _ HP.out]; rfl
  have hPl : P < W.heap.size := lt_of_block HP.out
  obtain ⟨i3, hi3, hz0, hz1, hz2⟩ := info_parts Try.info3n
  have HPK := hide (fun W => pick_any N 65536 hN (by decide) (by decide) W)
  have HPL := hide (fun (i : Nat) (hi : i ≤ 65536) W => pick_any ((i + pkZ N 65536 : Nat) : Int) 65536 (by have := pkZ_lt N (n := 65536) (by decide); unfold Fit; omega) (by decide) (by decide) W)
  have HLT := hide (pkZ_lt N (n := 65536) (by decide))
  clear h hb
  go_enter Try.func12, Try.ntmps12
  go_upto_region 1 with fail
  rw [← hW, ← hP]
  clear hW hP
  go_upto_region 14 with fail
  clear p0
  go_loopw [12, 13] (fun v x wr => ∃ i : Nat, i ≤ 65536 ∧ x = .int .i64 i ∧ Hid (OwnI wr W.heap.size v (EL N i)) ∧ Hid (Below W.heap.size W wr)) (fun _ x _ => 65536 - (RowKit.intOf x).toNat)
  case atStart => exact ⟨0, Nat.zero_le _, rfl, World.ownsRow_nil _ _ _ _, Below.refl _ _⟩
  case round =>
    obtain ⟨i, hi, rfl, HO, HX⟩ := hrel
    by_cases hlt : i < 65536
    · have hlt' : (i : Int) < 65536 := by omega
      have p3 := (HX.out.cell (p := ⟨P, 2, none⟩) hPl).trans p2
      obtain ⟨av, cv, hv, _⟩ := own_shape HO.out
      subst hv
      have HPI := hide (HPL.out i (by omega))
      have HE := hide (EL_succ N i)
      have HEI : Hid (eL N i = pkZ ((i + pkZ N 65536 : Nat) : Int) 65536 / 3) := rfl
      have hpl := HLT.out
      have HP6 := hide (pkZ_lt ((i + pkZ N 65536 : Nat) : Int) (n := 65536) (by decide))
      have HLN := hide (EL_length N i)
      generalize pkZ N 65536 = p at *
      have fq : IntKind.i64.wrap ((i : Int) + (p : Int)) = ((i + p : Nat) : Int) := by rw [← Int.natCast_add]; simp [IntKind.wrap, IntKind.bits, IntKind.signed]; omega
      obtain ⟨y, hy⟩ : ∃ y, y = i + p := ⟨_, rfl⟩
      rw [← hy] at fq HPI HEI HP6
      generalize pkZ (y : Int) 65536 = z at *
      have hz6 := HP6.out
      obtain ⟨c, hc⟩ : ∃ c, c = z / 3 := ⟨_, rfl⟩
      have f3 : (z : Int).tdiv 3 = (c : Int) := by rw [Int.tdiv_eq_ediv_of_nonneg (by omega)]; omega
      have f4 : IntKind.i64.wrap (c : Int) = (c : Int) := by simp [IntKind.wrap, IntKind.bits, IntKind.signed]; omega
      rw [← hc] at HEI
      clear hy hc
      have HX6 : Hid (Below wr.heap.size wr (wr.alloc (.cells #[.int .i64 (c : Int)] 3))) := al (Below.refl _ wr) _
      have O6 := hide (own_below HO.out HX6.out)
      have HN6 := hide (one_new3 wr (.int .i64 (c : Int)))
      have X6 := hide (HX.out.trans (HX6.out.mono HX.out.size))
      clear HX6 HO
      go_wp2_with (first
        | (at_builtin; refine wpList_append_view rfl (.tmp 88) (.tmp 96) 43 rfl W.heap.size 3 i3 (.int .i64 0) 1 8 Try.underlying43 hi3 hz0 hz1 hz2 rfl (by decide) _ (EL N i).length (izC (EL N i)) rfl O6.out ⟨wr.heap.size, 0, none⟩ 1 1 [.int .i64 (c : Int)] rfl rfl HN6.out (by simp [Value.oneCell']) (by decide) (by rw [HLN.out]; unfold maxLen; omega) (by rw [HLN.out]; omega) X6.out.size ?_; intro v7 w7 h1 h2; have O7 : Hid (OwnI w7 W.heap.size v7 (EL N (i + 1))) := (by unfold Hid OwnI; rw [HE.out, HEI.out, List.length_append, izC_append]; exact h1); have X7 := hide (X6.out.trans ((appK h2).below X6.out.size (fun j hj => (World.ownsRow.lt O6.out j hj).1))); clear h1 h2 O6 X6)
        | (go_at_call 11; refine (HPK.out _).mono ?_; rintro e wz ⟨rfl, hwz⟩; have hwz := hwz.symm; subst hwz; clear HPK)
        | (go_at_call 11; refine (HPI.out _).mono ?_; rintro e wz ⟨rfl, hwz⟩; have hwz := hwz.symm; subst hwz))
      go_roundw
      case rel => exact ⟨i + 1, by omega, by go_num, O7, X7⟩
      case measure => simp [RowKit.intOf]; omega
    · have hlt' : ¬ (i : Int) < 65536 := by omega
      have hi6 : i = 65536 := by omega
      obtain ⟨av, cv, hv, hz, hbv⟩ := OwnI.any HO.out
      subst hv
      have S2 := hide (S1.out.below HX.out)
      obtain ⟨_, s2, s3⟩ := S1.out.lt
      have HMP := hide (maps_any av cv (EL N i) (by rw [EL_length]; omega) hz (fun b off e _ => by have := hbv b off e; exact ⟨by omega, by omega⟩) S2.out)
      have X2 := hide HX.out
      clear hz hbv HO HX hi6
      go_wp2_with (go_at_call 30; refine HMP.out.mono ?_; rintro e w3 ⟨rfl, hs3, hk3⟩; have S3 := hide hs3; have K3 := hide hk3; clear hs3 hk3)
      go_ret
      obtain ⟨T', hT'⟩ := S3.out
      exact ⟨rfl, StP.start XW.out (StP.side S1.out B1.out ((Kept.of_below X2.out).trans (K3.out.mono (fun j hj => .inr hj))) hT' (.inl rfl) (.inl rfl))⟩
set_option maxRecDepth 100000 in
set_option maxHeartbeats 2000000 in
theorem stepRows {w : World} {base xb tb rb bb m : Nat} {T : Tr} (on N a k : Int) (la ra : Option Addr) (ll lc rl rc : Nat) (h : SdAt w xb tb rb T) (hb : Bk w base bb m) (hm : m ≤ 4294967296) :
    Calls Try.prog 12 #[.pointer (some ⟨xb, 0, none⟩), .agg #[.int .i64 4, .int .i64 on, .int .i64 N, .int .i64 a, .int .i64 k, .slice la ll lc, .slice ra rl rc], .pointer (some ⟨bb, 0, none⟩)] w fun e w' => e = .returned (.bool true) ∧ StP w base xb tb rb bb (m + 2) w' := by
  obtain ⟨W, hW⟩ : ∃ W, W = w.alloc (.cells #[.int .i64 4, .int .i64 on, .int .i64 N, .int .i64 a, .int .i64 k, .slice la ll lc, .slice ra rl rc] 46) := ⟨_, rfl⟩
  have XW := hide (show Below w.heap.size w W by rw [hW]; exact al (Below.refl _ _) _)
  have HP := hide (show W.heap[w.heap.size]? = some (.cells #[.int .i64 4, .int .i64 on, .int .i64 N, .int .i64 a, .int .i64 k, .slice la ll lc, .slice ra rl rc] 46 (0, 0)) by rw [hW]; exact heap_alloc_new w _)
  obtain ⟨P, hP⟩ : ∃ P, P = w.heap.size := ⟨_, rfl⟩
  rw [← hP] at HP
  have S1 := hide (h.below XW.out)
  have B1 := hide (hb.below XW.out)
  have p0 : W.cell? ⟨P, 0, none⟩ = some (.int .i64 4) := by rw [cell_of_row _ _ _ _ _ _ HP.out]; rfl
  obtain ⟨i44, hi44, hy0, hy1, hy2⟩ := info_parts Try.info44s
  clear h hb
  go_enter Try.func12, Try.ntmps12
  go_upto_region 1 with fail
  rw [← hW, ← hP]
  clear hW hP
  go_upto_region 20 with fail
  clear p0
  go_loopw [14] (fun x wr => ∃ t : Nat, t ≤ 2 ∧ x = .int .i64 t ∧ Hid (SdAt wr xb tb rb T) ∧ Hid (Bk wr base bb (m + t)) ∧ Hid (BkK base W wr)) (fun x _ => 2 - (RowKit.intOf x).toNat)
  case atStart => exact ⟨0, Nat.zero_le _, rfl, S1, B1, BkK.refl _ _⟩
  case round =>
    obtain ⟨t, ht, rfl, S2, B2, K2⟩ := hrel
    by_cases hlt : t < 2
    · have hlt' : (t : Int) < 2 := by omega
      obtain ⟨fr, wa, alv, n, FD, WD, A, RR, hB, hWD, hn⟩ := B2.out
      have HB2 := hide hB
      have HBB := hide hB.bas
      have HWD := hide hWD
      have HNN := hide hn
      have hbl := lt_of_block hB.blk
      have HBS : Hid (base ≤ wr.heap.size) := Nat.le_trans hB.bas (Nat.le_of_lt hbl)
      have HFD : Hid (FD.length ≤ 4294967298) := by show FD.length ≤ 4294967298; omega
      clear B2 hB hWD hn hbl
      have q0 : wr.cell? ⟨xb, 0, none⟩ = some (.pointer (some ⟨tb, 0, none⟩)) := by rw [cell_of_row _ _ _ _ _ _ S2.out.blk]; rfl
      have HR1 := hide (rows_any wr S2.out.dep S2.out.tr)
      rw [tree_rows S2.out.nf S2.out.dep] at HR1
      have HLR := hide (rowsF_len T.at 32 0 0)
      go_upto_region 23 with (go_at_call 16; refine HR1.out.mono ?_; rintro e w3 ⟨⟨l3, rfl, ho3⟩, x3⟩; have O3 := hide ho3; have X3 := hide x3; clear ho3 x3)
      clear HR1 q0
      have S3 := hide (S2.out.below X3.out)
      have q1 : w3.cell? ⟨xb, 1, none⟩ = some (.pointer (some ⟨rb, 0, none⟩)) := by rw [cell_of_row _ _ _ _ _ _ S3.out.blk]; rfl
      have HR2 := hide (rowsD S3.out.dt)
      go_upto_region 24 with (go_at_call 31; refine HR2.out.mono ?_; rintro e w4 ⟨⟨l4, rfl, ho4⟩, x4⟩; have O4 := hide ho4; have X4 := hide (X3.out.trans (x4.mono X3.out.size)); have O3' := hide (own_below O3.out x4); clear ho4 x4)
      clear HR2 q1 S3
      have HN3 : Hid (∀ k, l3.ownBlock = some k → wr.heap.size ≤ k) := fun k hk => (World.ownsRow.lt O3.out k hk).1
      have HM4 := hide (own_mono O4.out (Nat.le_trans HBS.out X3.out.size))
      have HM3 := hide (own_mono O3'.out HBS.out)
      clear O3 O4 O3'
      generalize rowsF T.at 32 0 0 = R at *
      obtain ⟨a1, k1, e1, _, r1⟩ := own_cells3 HM3.out
      obtain ⟨a2, k2, e2, _, r2⟩ := own_cells3 HM4.out
      subst e1 e2
      have hlr := HLR.out
      have HSM : Hid (Calls Try.prog 15 #[.slice a1 R.length k1, .slice a2 R.length k2] w4 fun e w' => e = .returned (.bool true) ∧ Below w4.heap.size w4 w') := by
        have := rowsSame_any a1 a2 k1 k2 (zr R) w4 (by rw [zr_length]; omega) r1 r2
        rwa [zr_length] at this
      clear r1 r2 hlr
      go_upto_region 25 with (go_at_call 15; refine HSM.out.mono ?_; rintro e w5 ⟨rfl, x5⟩; have M3 : Hid (OwnR w5 base (.slice a1 R.length k1) R) := (own_below HM3.out x5); have M4 : Hid (OwnR w5 base (.slice a2 R.length k2) R) := (own_below HM4.out x5); have X5 := hide (X4.out.trans (x5.mono X4.out.size)); clear x5)
      clear HSM HM3 HM4
      -- free
      have B5 := hide (HB2.out.below X5.out)
      obtain ⟨af, cf, hf, _⟩ := own_shape B5.out.rest.ls.row
      obtain ⟨aw, cw, hw, _⟩ := own_shape B5.out.rest.wr
      subst hf hw
      obtain ⟨c0, -, -, -⟩ := bk_cells B5.out.blk
      have HX6 : Hid (Below w5.heap.size w5 (w5.alloc (.cells #[.slice a1 R.length k1] 44))) := al (Below.refl _ w5) _
      have B6 := hide (B5.out.below HX6.out)
      have HN6 := hide (one_new44 w5 (.slice a1 R.length k1))
      have M36 : Hid (OwnR (w5.alloc (.cells #[.slice a1 R.length k1] 44)) base (.slice a1 R.length k1) R) := own_below M3.out HX6.out
      have M46 : Hid (OwnR (w5.alloc (.cells #[.slice a1 R.length k1] 44)) base (.slice a2 R.length k2) R) := own_below M4.out HX6.out
      have X6 := hide (X5.out.trans (HX6.out.mono X5.out.size))
      have HS6 : Hid (base ≤ (w5.alloc (.cells #[.slice a1 R.length k1] 44)).heap.size) := Nat.le_trans HBS.out X6.out.size
      clear M3 M4 HX6 B5
      go_upto_region 26 with (at_builtin; refine wpList_append_view rfl (.tmp 124) (.tmp 126) 26 rfl base 44 i44 (.slice none 0 0) 1 24 Try.underlying26 hi44 hy0 hy1 hy2 rfl (by decide) _ FD.length (FD.map LD.v) rfl B6.out.rest.ls.row ⟨w5.heap.size, 0, none⟩ 1 1 [.slice a1 R.length k1] rfl rfl HN6.out (by simp [Value.oneCell']) (by decide) (by have := HFD.out; unfold maxLen; omega) (by have := HFD.out; omega) HS6.out ?_; intro v7 w7 h1 h2; obtain ⟨a7, k7, hv7, _⟩ := own_shape h1; subst hv7; have R7 := hide (B6.out.rest.pushF HB2.out.rest HWD.out M36.out HN3.out HLR.out h1 h2); have B7 := hide (bk_app B6.out.blk h2 B6.out.rest.ls.row (by decide)); have K7 : Hid (BkK base W w7) := (K2.out.next X6.out).trans (BkK.app h2 B6.out.rest.ls.row (.inr (.inl rfl))); have M7 : Hid (OwnR w7 base (.slice a2 R.length k2) R) := (own_kept M46.out (appK h2) (fun k a b => own_ne B6.out.rest.ls.row M46.out (by decide) k b a)); have c7 := (bk_cells B7.out).1; have f7 := frozen_of_row w7 bb 0 _ _ B7.out; clear h1 h2 B6)
      clear c7 f7 c0 HS6 HN6 M36 M46
      have R8 := hide (R7.out.kept (F := fun k => k = bb) (Kept.setCell (F := fun k => k = bb) (p := ⟨bb, 0, none⟩) (Kept.refl _ _) rfl (.slice a7 (FD.length + 1) k7)) (fun k hk => ⟨_, 28, _, by subst hk; exact B7.out, by decide, by decide⟩))
      have B8 := hide (bk_set0 B7.out (.slice a7 (FD.length + 1) k7))
      have K8 := hide (K7.out.set B7.out HBB.out 0 (.slice a7 (FD.length + 1) k7))
      have M8 : Hid (OwnR (w7.setCell ⟨bb, 0, none⟩ (.slice a7 (FD.length + 1) k7)) base (.slice a2 R.length k2) R) := own_keepQ M7.out (bk_keep B7.out 0 _) (by decide)
      clear R7 B7 K7 M7
      generalize w7.setCell ⟨bb, 0, none⟩ (.slice a7 (FD.length + 1) k7) = w8 at *
      -- want
      obtain ⟨-, c1, -, -⟩ := bk_cells B8.out
      have HX9 : Hid (Below w8.heap.size w8 (w8.alloc (.cells #[.slice a2 R.length k2] 44))) := al (Below.refl _ w8) _
      have R9 := hide (R8.out.below HX9.out)
      have B9 := hide ((HX9.out.block bb (lt_of_block B8.out)).trans B8.out)
      have K9 := hide (K8.out.next HX9.out)
      have HN9 := hide (one_new44 w8 (.slice a2 R.length k2))
      have M9 : Hid (OwnR (w8.alloc (.cells #[.slice a2 R.length k2] 44)) base (.slice a2 R.length k2) R) := own_below M8.out HX9.out
      have HS9 : Hid (base ≤ (w8.alloc (.cells #[.slice a2 R.length k2] 44)).heap.size) := Nat.le_trans HBB.out (Nat.le_of_lt (lt_of_block B9.out))
      have HWL : Hid (WD.length ≤ 4294967298) := by rw [HWD.out]; exact HFD.out
      have HRW : Hid ((if WD.length = FD.length then R else RR WD.length) = R) := if_pos HWD.out
      clear R8 B8 K8 M8 HX9
      go_upto_region 27 with (at_builtin; refine wpList_append_view rfl (.tmp 134) (.tmp 136) 26 rfl base 44 i44 (.slice none 0 0) 1 24 Try.underlying26 hi44 hy0 hy1 hy2 rfl (by decide) _ WD.length (WD.map LD.v) rfl R9.out.wr ⟨w8.heap.size, 0, none⟩ 1 1 [.slice a2 R.length k2] rfl rfl HN9.out (by simp [Value.oneCell']) (by decide) (by have := HWL.out; unfold maxLen; omega) (by have := HWL.out; omega) HS9.out ?_; intro v10 w10 h1 h2; obtain ⟨a10, k10, hv10, _⟩ := own_shape h1; subst hv10; have R10 := hide (R9.out.pushW M9.out HRW.out h1 h2); have B10 := hide (bk_app B9.out h2 R9.out.wr (by decide)); have K10 := hide (K9.out.trans (BkK.app h2 R9.out.wr (.inr (.inl rfl)))); have c10 := (bk_cells B10.out).2.1; have f10 := frozen_of_row w10 bb 1 _ _ B10.out; clear h1 h2 B9 R9 K9)
      clear c10 f10 c1 HS9 HN9 M9
      have R11 := hide (R10.out.kept (F := fun k => k = bb) (Kept.setCell (F := fun k => k = bb) (p := ⟨bb, 1, none⟩) (Kept.refl _ _) rfl (.slice a10 (WD.length + 1) k10)) (fun k hk => ⟨_, 28, _, by subst hk; exact B10.out, by decide, by decide⟩))
      have B11 := hide (bk_set1 B10.out (.slice a10 (WD.length + 1) k10))
      have K11 := hide (K10.out.set B10.out HBB.out 1 (.slice a10 (WD.length + 1) k10))
      clear R10 B10 K10
      generalize w10.setCell ⟨bb, 1, none⟩ (.slice a10 (WD.length + 1) k10) = w11 at *
      have S11 := hide (S1.out.bk K11.out)
      have BK11 : Hid (Bk w11 base bb (m + (t + 1))) := ⟨_, _, _, _, _, _, _, _, ⟨B11.out, HBB.out, R11.out⟩, by simp [HWD.out], by have := HNN.out; simp; omega⟩
      clear R11 B11
      go_wp2
      go_roundw
      case rel => exact ⟨t + 1, by omega, by go_num, S11, BK11, K11⟩
      case measure => simp [RowKit.intOf]; omega
    · have hlt' : ¬ (t : Int) < 2 := by omega
      have B3 : Hid (Bk wr base bb (m + 2)) := B2.out.mono (by omega)
      go_wp2
      go_ret
      exact ⟨rfl, StP.start XW.out ⟨⟨tb, rb, T, S2.out, .inl rfl, .inl rfl⟩, B3.out, K2.out.mono (fun k hk => .inr (.inr (.inr hk)))⟩⟩
end Go.Proofs.Ytnfdjbaafiifnaa
