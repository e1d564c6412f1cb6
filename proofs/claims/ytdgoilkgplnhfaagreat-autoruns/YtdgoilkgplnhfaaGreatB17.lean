/-
  The document's unlike by its contract. Condition: the automaton may be; states and columns that are.
-/
import Derived.Test.YtdgoilkgplnhfaaGreatB16
import Derived.BigRegion
import Derived.Test.YtdgoilkgplnhfaaGreatB11
import Derived.DeepKeys4
namespace Go.Proofs.YtdgoilkgplnhfaaGreat
open Go.RowKit Go.Lib

set_option maxRecDepth 100000 in
set_option maxHeartbeats 8000000 in
theorem unlD_any (bs : By) (na oa la ca : Option Addr) (nc oc lc cc W : Nat) (NX OU l C : List Nat) (w : World) (hM : MayA bs NX OU) (hW : NX.length / OU.length = W) (hWm : W = mxL (ntL bs) + 1) (hC : ∀ c ∈ C, c < W) (hCl : C.length ≤ 256) (hl : ∀ s ∈ l, s < OU.length) (hll : l.length ≤ OU.length) (hnx : NAt w na NX) (hla : NAt w la l) (hca : NAt w ca C) :
    Calls Tryz.prog 82 #[auV bs na NX.length nc oa OU.length oc, .slice la l.length lc, .slice ca C.length cc] w fun e w' => (∃ (ao : Option Addr) (cap : Nat) (U : List Nat), e = .returned (.slice ao U.length cap) ∧ OwnN w' w.heap.size (.slice ao U.length cap) U ∧ UnS (dfA bs NX OU) l C C.length U) ∧ Below w.heap.size w w' := by
  obtain ⟨i3, hi3, hz30, hz31, hz32⟩ := info_parts Tryz.info3n
  have hn1 := hM.n1
  have hbl := hM.bl
  have hw1 := hM.w1
  rw [hW] at hw1
  have hxl := hM.nxl
  obtain ⟨w2, hw2⟩ : ∃ w2, w2 = w.alloc (.cells #[.string ⟨bs.toArray⟩, .slice na NX.length nc, .slice oa OU.length oc] 24) := ⟨_, rfl⟩
  have X2 : Below w.heap.size w w2 := by rw [hw2]; exact al (Below.refl _ _) _
  have B2 : w2.heap[w.heap.size]? = some (.cells #[.string ⟨bs.toArray⟩, .slice na NX.length nc, .slice oa OU.length oc] 24 (0, 0)) := by rw [hw2]; exact heap_alloc_new w _
  have HC : Hid (∀ V, Below w2.heap.size w2 V → V.cell? ⟨w.heap.size, 0, none⟩ = some (.string ⟨bs.toArray⟩) ∧ V.cell? ⟨w.heap.size, 1, none⟩ = some (.slice na NX.length nc) ∧ V.cell? ⟨w.heap.size, 2, none⟩ = some (.slice oa OU.length oc) ∧ NAt V na NX ∧ NAt V la l ∧ NAt V ca C) := fun V x => by
    have Bv := (x.block _ (lt_of_block B2)).trans B2
    have y := bt X2 x (Nat.le_refl _)
    exact ⟨by rw [cell_of_row _ _ _ _ _ _ Bv]; rfl, by rw [cell_of_row _ _ _ _ _ _ Bv]; rfl, by rw [cell_of_row _ _ _ _ _ _ Bv]; rfl, hnx.below y, hla.below y, hca.below y⟩
  have HX2 := hide X2
  obtain ⟨c0, c1, c2, _⟩ := HC.out w2 (Below.refl _ _)
  have HWD := hide (wideD_any bs na oa NX.length nc OU.length oc w2 hbl)
  rw [← hWm] at HWD
  unfold auV at HWD
  have HIX : Hid (∀ s c, s < OU.length → c < W → s * W + c < NX.length) := fun s c h1 h2 => by
    rw [hM.wl, hW]; exact at_lt h1 h2
  have HNX : Hid (∀ s c, (dfA bs NX OU).nx s c = gN NX (s * W + c)) := fun s c => by
    show gN NX (s * (NX.length / OU.length) + c) = _
    rw [hW]
  have HCW : Hid (∀ j, j < C.length → gN C j < W) := fun j hj => hC _ (gN_mem hj)
  have HLW : Hid (∀ j, j < l.length → gN l j < OU.length) := fun j hj => hl _ (gN_mem hj)
  have HUW : Hid (∀ (U : List Nat) (k j : Nat), UnS (dfA bs NX OU) l C k U → j < U.length → gN U j < W) := fun U k j S hj => hC _ (S.mem _ (gN_mem hj))
  clear X2 B2 hM hC hl hnx hca hla hW hWm
  unfold auV
  go_enter Tryz.func82, Tryz.ntmps82
  go_upto_region 1 with fail
  rw [← hw2]
  clear hw2
  go_upto_region 2 with (go_at_call 68; refine HWD.out.mono ?_; rintro e w3 ⟨rfl, x3⟩; have X3 := hide x3; clear x3)
  clear c0 c1 c2 HWD
  have F0 := hide ((Fr.start w3).bare 3)
  go_wp2
  go_loopg [8, 9] (C.length + 1) (fun g x y wr => ∃ (k : Nat) (U : List Nat), y = .int .i64 (k : Nat) ∧ k ≤ C.length ∧ Hid (Fr w3 [(x, 3, nCells U)] wr) ∧ Hid (UnS (dfA bs NX OU) l C k U) ∧ C.length - k < g)
  case atStart => exact ⟨0, [], rfl, by omega, F0, UnS.start, by omega⟩
  case round =>
    obtain ⟨k, U, rfl, hk1, F, S, hg⟩ := hrel
    have HG := hide hg
    clear hg F0
    have hUl := S.out.len
    obtain ⟨ua, uc, hv⟩ := F.out.shape (i := 0) (by simp) rfl
    rw [nCells_length] at hv
    subst hv
    by_cases hk : k < C.length
    · have hk' : (k : Int) < (C.length : Int) := by omega
      go_wp2
      go_loopg [10, 11] (U.length + 1) (fun g x y wr => ∃ (i : Nat) (b : Bool), y = .int .i64 (i : Nat) ∧ i ≤ U.length ∧ x = .bool b ∧ Hid (b = true → ∃ i, i < U.length ∧ ∀ s ∈ l, (dfA bs NX OU).nx s (gN C k) = (dfA bs NX OU).nx s (gN U i)) ∧ Hid (Fr w3 [(.slice ua U.length uc, 3, nCells U)] wr) ∧ U.length - i < g)
      case atStart => exact ⟨0, false, rfl, by omega, rfl, (fun h => by cases h), F, by omega⟩
      case round =>
        clear F
        obtain ⟨i, b, rfl, hi1, rfl, HB, F, hg⟩ := hrel
        have HG2 := hide hg
        clear hg
        by_cases hi : i < U.length
        · have hi' : (i : Int) < (U.length : Int) := by omega
          cases b with
          | true =>
            have S2 : Hid (UnS (dfA bs NX OU) l C (k + 1) U) := by
              obtain ⟨i0, h1, h2⟩ := HB.out rfl
              exact S.out.old h1 h2
            go_wp2
            go_roundg (C.length - (k + 1) + 1)
            case measure => have := HG.out; omega
            case rel => exact ⟨k + 1, U, by first | rfl | go_num | (congr 1; omega), by omega, F, S2, by omega⟩
          | false =>
            clear HB
            go_wp2
            go_loopg [10, 12] (l.length + 1) (fun g x y wr => ∃ (n : Nat) (b : Bool), y = .int .i64 (n : Nat) ∧ n ≤ l.length ∧ x = .bool b ∧ Hid (b = true → ∀ p, p < n → (dfA bs NX OU).nx (gN l p) (gN C k) = (dfA bs NX OU).nx (gN l p) (gN U i)) ∧ Hid (Fr w3 [(.slice ua U.length uc, 3, nCells U)] wr) ∧ l.length - n < g)
            case atStart => exact ⟨0, true, rfl, by omega, rfl, fun _ p hp => by omega, F, by omega⟩
            case round =>
              clear F
              obtain ⟨n, b, rfl, hn2, rfl, HB, F, hg⟩ := hrel
              have HG3 := hide hg
              clear hg
              by_cases hn : n < l.length
              · have hn' : (n : Int) < (l.length : Int) := by omega
                cases b with
                | false =>
                  go_wp2
                  go_roundg (U.length - (i + 1) + 1)
                  case measure => have := HG2.out; omega
                  case rel => exact ⟨i + 1, false, by first | rfl | go_num | (congr 1; omega), by omega, rfl, (fun h => by cases h), F, by omega⟩
                | true =>
                  obtain ⟨_, c1, _, kx, kl, kc⟩ := HC.out wr (bt X3.out F.out.bel (Nat.le_refl _))
                  obtain ⟨ug, e, -, -⟩ := F.out.cell (i := 0) (by simp) rfl (k := i) (by rw [nCells_length]; exact hi)
                  subst e
                  obtain ⟨su, _⟩ := F.out.slotN (i := 0) (by simp) rfl (k := i) hi
                  have hs := HLW.out n hn
                  have hc := HCW.out k hk
                  have hd := HUW.out U k i S.out hi
                  have hx1 := HIX.out _ _ hs hc
                  have hx2 := HIX.out _ _ hs hd
                  obtain ⟨lb, loff, rfl, -, -⟩ := kl.get hn
                  have sl := kl.atG hn
                  obtain ⟨cb, coff, rfl, -, -⟩ := kc.get hk
                  have sc := kc.atG hk
                  obtain ⟨xb, xoff, rfl, -, -⟩ := kx.get hx1
                  have sx := kx.atG hx1
                  have sy := kx.atG hx2
                  have HEX : Hid (gN NX (gN l n * W + gN C k) = gN NX (gN l n * W + gN U i) → true = true → ∀ p, p < n + 1 → (dfA bs NX OU).nx (gN l p) (gN C k) = (dfA bs NX OU).nx (gN l p) (gN U i)) := fun h _ p hp => by
                    rcases Nat.lt_or_ge p n with h1 | h1
                    · exact HB.out rfl p h1
                    · rw [show p = n by omega, HNX.out, HNX.out]; exact h
                  clear kx kl kc HB
                  generalize gN NX (gN l n * W + gN C k) = x at *
                  generalize gN NX (gN l n * W + gN U i) = y at *
                  generalize gN l n = s at *
                  obtain ⟨c, hcE⟩ : ∃ c, Hid (c = gN C k) := ⟨_, rfl⟩
                  obtain ⟨d, hdE⟩ : ∃ d, Hid (d = gN U i) := ⟨_, rfl⟩
                  rw [← hcE.out] at sc sx hx1 hc
                  rw [← hdE.out] at su sy hx2 hd
                  have f1 : IntKind.i64.wrap ((s : Int) * (W : Int)) = ((s * W : Nat) : Int) := by rw [show (s : Int) * (W : Int) = ((s * W : Nat) : Int) by simp]; exact w64_n _ (by omega)
                  generalize hm : s * W = m at *
                  have f3 : IntKind.i64.wrap ((m : Int) + (c : Int)) = ((m + c : Nat) : Int) := by rw [show (m : Int) + (c : Int) = ((m + c : Nat) : Int) by simp]; exact w64_n _ (by omega)
                  have f4 : IntKind.i64.wrap ((m : Int) + (d : Int)) = ((m + d : Nat) : Int) := by rw [show (m : Int) + (d : Int) = ((m + d : Nat) : Int) by simp]; exact w64_n _ (by omega)
                  have hln : (m : Int) + (c : Int) < (NX.length : Int) := by omega
                  have hlz : (0 : Int) ≤ (m : Int) + (c : Int) := by omega
                  have hlt : ((m : Int) + (c : Int)).toNat = m + c := by omega
                  have hln2 : (m : Int) + (d : Int) < (NX.length : Int) := by omega
                  have hlz2 : (0 : Int) ≤ (m : Int) + (d : Int) := by omega
                  have hlt2 : ((m : Int) + (d : Int)).toNat = m + d := by omega
                  clear hm
                  by_cases hxy : x = y
                  · subst hxy
                    have HBN := hide (HEX.out rfl)
                    clear HEX
                    go_wp2
                    go_quiet (fail)
                    have FQ := hide (F.out.drew nq)
                    go_wp2
                    go_roundg (l.length - (n + 1) + 1)
                    case measure => have := HG3.out; omega
                    case rel => exact ⟨n + 1, true, by first | rfl | go_num | (congr 1; omega), by omega, by first | rfl | simp, (fun _ => HBN.out trivial), FQ, by omega⟩
                  · have hxy2 : ((x : Int) == (y : Int)) = false := by simp; omega
                    have hxy3 : ¬ (x : Int) = (y : Int) := by omega
                    clear HEX
                    go_wp2
                    go_quiet (fail)
                    have FQ := hide (F.out.drew nq)
                    go_wp2
                    go_roundg (l.length - (n + 1) + 1)
                    case measure => have := HG3.out; omega
                    case rel => exact ⟨n + 1, false, by first | rfl | go_num | (congr 1; omega), by omega, by first | rfl | simp [hxy2], (fun h => by cases h), FQ, by omega⟩
              · obtain rfl : n = l.length := by omega
                have hn' : ¬ (l.length : Int) < (l.length : Int) := by omega
                have HBF : Hid (b = true → ∃ i, i < U.length ∧ ∀ s ∈ l, (dfA bs NX OU).nx s (gN C k) = (dfA bs NX OU).nx s (gN U i)) := fun h => ⟨i, hi, fun s hs => by
                  obtain ⟨p, h1, h2⟩ := mem_gN hs
                  rw [← h2]
                  exact HB.out h p h1⟩
                go_wp2
                go_roundg (U.length - (i + 1) + 1)
                case measure => have := HG2.out; omega
                case rel => exact ⟨i + 1, b, by first | rfl | go_num | (congr 1; omega), by omega, rfl, HBF, F, by omega⟩
        · obtain rfl : i = U.length := by omega
          have hi' : ¬ (U.length : Int) < (U.length : Int) := by omega
          cases b with
          | true =>
            have S2 : Hid (UnS (dfA bs NX OU) l C (k + 1) U) := by
              obtain ⟨i0, h1, h2⟩ := HB.out rfl
              exact S.out.old h1 h2
            go_wp2
            go_roundg (C.length - (k + 1) + 1)
            case measure => have := HG.out; omega
            case rel => exact ⟨k + 1, U, by first | rfl | go_num | (congr 1; omega), by omega, F, S2, by omega⟩
          | false =>
            have S2 : Hid (UnS (dfA bs NX OU) l C (k + 1) (U ++ [gN C k])) := S.out.new hk
            obtain ⟨_, _, _, _, _, kc⟩ := HC.out wr (bt X3.out F.out.bel (Nat.le_refl _))
            obtain ⟨cb, coff, rfl, -, -⟩ := kc.get hk
            have sc := kc.atG hk
            clear kc HB
            generalize gN C k = c at *
            obtain ⟨p1, p2, p3⟩ := F.out.pre (i := 0) (by simp) rfl (c : Int)
            have P1 := hide p1
            have P2 := hide p2
            have P3 := hide p3
            have HPU : Hid (∀ v' w6, w6.ownsRow w3.heap.size 3 1 v' (U.length + 1) (nCells U ++ [.int .i64 (c : Int)]) → AppAt (wr.alloc (.cells #[.int .i64 (c : Int)] 3)) w6 (.slice ua U.length uc) v' → Fr w3 [(v', 3, nCells (U ++ [c]))] w6) := fun v' w6 g1 g2 => F.out.push (i := 0) (by simp) rfl g1 g2
            clear p1 p2 p3
            go_upto_region 5 with (at_builtin; refine wpList_append_view rfl (.tmp 73) (.tmp 78) 22 rfl w3.heap.size 3 i3 (.int .i64 0) 1 8 Tryz.underlying22 hi3 hz30 hz31 hz32 rfl (by decide) _ U.length _ rfl P1.out ⟨wr.heap.size, 0, none⟩ 1 1 [.int .i64 (c : Int)] rfl rfl P2.out (by simp [Value.oneCell']) (by decide) (by unfold maxLen; omega) (by omega) P3.out ?_; intro v6 w6 g1 g2; have F6 := hide (HPU.out v6 w6 g1 g2); clear g1 g2)
            go_wp2
            go_roundg (C.length - (k + 1) + 1)
            case measure => have := HG.out; omega
            case rel => exact ⟨k + 1, _, by first | rfl | go_num | (congr 1; omega), by omega, F6, S2, by omega⟩
    · obtain rfl : k = C.length := by omega
      have hk' : ¬ (C.length : Int) < (C.length : Int) := by omega
      have XW := hide (bt HX2.out (bt X3.out F.out.bel (Nat.le_refl _)) (Nat.le_refl _))
      have HN : Hid (OwnN wr w.heap.size (.slice ua U.length uc) U) := by
        have ho := F.out.own (i := 0) (by simp) rfl
        rw [nCells_length] at ho
        exact own_mono ho (Nat.le_trans HX2.out.size X3.out.size)
      go_wp2
      go_ret
      exact ⟨⟨_, _, U, rfl, HN.out, S.out⟩, XW.out⟩
end Go.Proofs.YtdgoilkgplnhfaaGreat
/-
  The document's parted by its contract: states numbered anew, and the numbers of pairs all 0 again. Condition: states, parts and columns that are.
-/
namespace Go.Proofs.YtdgoilkgplnhfaaGreat
open Go.RowKit Go.Lib

/-- The pair of a state: its part, and the part that a column leads to. -/
def kyP (PL OL NX : List Nat) (W c s : Nat) : Nat := gN PL s * 256 + gN OL (gN NX (s * W + c))
theorem zero_list {L : List Nat} {n : Nat} (hl : L.length = n) (h : ∀ x, gN L x = 0) : L = List.replicate n 0 := by
  rw [List.eq_replicate_iff]
  refine ⟨hl, fun b hb => ?_⟩
  obtain ⟨i, hi, rfl⟩ := List.getElem_of_mem hb
  rw [← gN_lt hi]; exact h i
/-- So many zeros. -/
def zer (n : Nat) : List Nat := List.replicate n 0
theorem zer_len (n : Nat) : (zer n).length = n := List.length_replicate
theorem zer_get (n i : Nat) : gN (zer n) i = 0 := gN_zero n i
/-- Numbers that are taken away again. -/
structure ZrS (l : List Nat) (key : Nat → Nat) (NU : List Nat) (j : Nat) (N : List Nat) : Prop where
  len : N.length = NU.length
  val : ∀ x, gN N x ≠ 0 → gN NU x ≠ 0 ∧ ∀ i, i < j → key (gN l i) ≠ x
theorem ZrS.next {l NU N : List Nat} {key : Nat → Nat} {j : Nat} (h : ZrS l key NU j N) (hk : key (gN l j) < NU.length) : ZrS l key NU (j + 1) (N.set (key (gN l j)) 0) := by
  refine ⟨by rw [List.length_set]; exact h.len, fun x hx => ?_⟩
  rw [gN_sT (by rw [h.len]; exact hk)] at hx
  by_cases e : x = key (gN l j)
  · rw [if_pos e] at hx; exact absurd rfl hx
  · rw [if_neg e] at hx
    obtain ⟨h1, h2⟩ := h.val x hx
    refine ⟨h1, fun i hi => ?_⟩
    rcases Nat.lt_or_ge i j with h3 | h3
    · exact h2 i h3
    · rw [show i = j by omega]; exact fun h => e h.symm
theorem ZrS.done {l NU N PL : List Nat} {key : Nat → Nat} {k m : Nat} (h : ZrS l key NU l.length N) (hk : KnS l key k PL NU m) (hkl : k ≤ l.length) : ∀ x, gN N x = 0 := fun x => by
  apply Classical.byContradiction
  intro hx
  obtain ⟨h1, h2⟩ := h.val x hx
  obtain ⟨i, h3, h4⟩ := hk.c x h1
  exact h2 i (by omega) h4
set_option maxRecDepth 100000 in
set_option maxHeartbeats 8000000 in
theorem prtD_any (bs : By) (na oo la pa oa : Option Addr) (nc ol oc lc pc oc' W c n gn : Nat) (NX l PL OL : List Nat) (R1 : List VR) (w0 w : World) (hxl : NX.length ≤ 16777216) (hn : n ≤ 65536) (hll : l.length ≤ n) (hPL : PL.length = n) (hOL : OL.length = n)
    (hky : ∀ i, i < l.length → gN l i < n ∧ gN l i * W + c < NX.length ∧ gN NX (gN l i * W + c) < n ∧ gN PL (gN l i) < 256 ∧ gN OL (gN NX (gN l i * W + c)) < 256)
    (hF : Fr w0 ((.slice (some ⟨gn, 0, none⟩) 65536 65536, 3, nCells (zer 65536)) :: R1) w)
    (hrd : ∀ V x y NU, Fr w0 (x :: y :: (.slice (some ⟨gn, 0, none⟩) 65536 65536, 3, nCells NU) :: R1) V → NAt V na NX ∧ NAt V la l ∧ NAt V pa PL ∧ NAt V oa OL) :
    Calls Tryz.prog 83 #[auV bs na NX.length nc oo ol oc, .slice la l.length lc, .slice pa n pc, .slice oa n oc', .slice (some ⟨gn, 0, none⟩) 65536 65536, .int .i64 (W : Nat), .int .i64 (c : Nat)] w fun e w' => ∃ og m : Nat, e = .returned (.tuple #[.slice (some ⟨og, 0, none⟩) n n, .int .i64 (m : Nat)]) ∧ ∃ QL : List Nat, Fr w0 ((.slice (some ⟨og, 0, none⟩) n n, 3, nCells QL) :: (.slice (some ⟨gn, 0, none⟩) 65536 65536, 3, nCells (zer 65536)) :: R1) w' ∧ QL.length = n ∧ ∃ NU k, k ≤ l.length ∧ KnS l (kyP PL OL NX W c) k QL NU m ∧ ((m ≤ 256 ∧ k = l.length) ∨ m = 257) := by
  obtain ⟨i3, hi3, hz30, hz31, hz32⟩ := info_parts Tryz.info3n
  have HKY := hide hky
  have HRD := hide hrd
  have F2 := hide (hF.box 24 [.string ⟨bs.toArray⟩, .slice na NX.length nc, .slice oo ol oc] (by simp [maxLen]))
  obtain ⟨key, hkE⟩ : ∃ key, Hid (key = kyP PL OL NX W c) := ⟨_, rfl⟩
  rw [← hkE.out]
  clear hky hrd hF
  unfold auV
  go_enter Tryz.func83, Tryz.ntmps83
  go_upto_region 1 with fail
  obtain ⟨w2, hw2⟩ : ∃ w2, w2 = w.alloc (.cells #[.string ⟨bs.toArray⟩, .slice na NX.length nc, .slice oo ol oc] 24) := ⟨_, rfl⟩
  obtain ⟨bx, hbx⟩ : ∃ bx, bx = w.heap.size := ⟨_, rfl⟩
  rw [← hw2, ← hbx] at F2 ⊢
  clear hw2 hbx
  go_upto_region 2 with (at_make; refine wpList_make_full _ rfl (.tmp 22) (.tmp 22) 22 rfl w0.heap.size 3 i3 (.int .i64 0) 1 Tryz.underlying22 hi3 hz30 hz31 .i64 .i64 _ _ n rfl rfl rfl rfl (by rw [hz32]; omega) (by unfold maxLen; omega) F2.out.bel.size ?_; intro w3 m1 m2; have F3 := hide (F2.out.mkN m1 m2); clear m1 m2)
  obtain ⟨og, hog⟩ : ∃ og, og = w2.heap.size := ⟨_, rfl⟩
  rw [← hog] at F3 ⊢
  clear hog F2
  have K0 : Hid (KnS l key 0 (List.replicate n 0) (zer 65536) 0) := KnS.start (zer_get _)
  go_wp2
  go_loopg [17, 18] (l.length + 1) (fun g x y wr => ∃ (k m : Nat) (QL NU : List Nat), y = .int .i64 (k : Nat) ∧ x = .int .i64 (m : Nat) ∧ k ≤ l.length ∧ m ≤ 257 ∧ Hid (Fr w0 ((.slice (some ⟨og, 0, none⟩) n n, 3, nCells QL) :: (.slice (some ⟨bx, 0, none⟩) 3 3, 24, [.string ⟨bs.toArray⟩, .slice na NX.length nc, .slice oo ol oc]) :: (.slice (some ⟨gn, 0, none⟩) 65536 65536, 3, nCells NU) :: R1) wr) ∧ Hid (KnS l key k QL NU m) ∧ QL.length = n ∧ NU.length = 65536 ∧ l.length - k < g)
  case atStart => exact ⟨0, 0, _, _, rfl, rfl, by omega, by omega, F3, K0, by rw [List.length_replicate], zer_len _, by omega⟩
  case round =>
    obtain ⟨k, m, QL, NU, rfl, rfl, hk1, hm, F, S, hQL, hNU, hg⟩ := hrel
    have HG := hide hg
    clear hg F3 K0
    by_cases hgo : k < l.length ∧ m ≤ 256
    · obtain ⟨hk, hm6⟩ := hgo
      have hk' : (k : Int) < (l.length : Int) := by omega
      have hm' : (m : Int) ≤ 256 := by omega
      obtain ⟨h1, h2, h3, h4, h5⟩ := HKY.out k hk
      obtain ⟨kx, kl, kp, ko⟩ := HRD.out _ _ _ _ F.out
      have c1 := (F.out.slot (i := 1) (by simp) rfl (k := 1) (by simp)).1
      simp only [List.getElem_cons_succ, List.getElem_cons_zero] at c1
      obtain ⟨lb, loff, rfl, -, -⟩ := kl.get hk
      have sl := kl.atG hk
      obtain ⟨pb, poff, rfl, -, -⟩ := kp.get (i := gN l k) (by omega)
      have sp := kp.atG (i := gN l k) (by omega)
      obtain ⟨xb, xoff, rfl, -, -⟩ := kx.get h2
      have sx := kx.atG h2
      obtain ⟨ob, ooff, rfl, -, -⟩ := ko.get (i := gN NX (gN l k * W + c)) (by omega)
      have so := ko.atG (i := gN NX (gN l k * W + c)) (by omega)
      have hke : key (gN l k) = gN PL (gN l k) * 256 + gN OL (gN NX (gN l k * W + c)) := by rw [hkE.out]; rfl
      have HLC : Hid (∀ V x y NU, Fr w0 (x :: y :: (.slice (some ⟨gn, 0, none⟩) 65536 65536, 3, nCells NU) :: R1) V → V.cell? ⟨lb, loff + k, none⟩ = some (.int .i64 ((gN l k : Nat) : Int))) := fun V x y NU F => (HRD.out V x y NU F).2.1.atG hk
      have hqm := S.out.le (key (gN l k))
      have HOLD : Hid (gN NU (key (gN l k)) ≠ 0 → KnS l key (k + 1) (QL.set (gN l k) (gN NU (key (gN l k)) - 1)) NU m) := fun h => S.out.old (by omega) h
      have HNEW : Hid (gN NU (key (gN l k)) = 0 → KnS l key (k + 1) (QL.set (gN l k) m) (NU.set (key (gN l k)) (m + 1)) (m + 1)) := fun h => S.out.new (by omega) (by omega) h
      clear kx kl kp ko
      generalize key (gN l k) = o at *
      generalize gN OL (gN NX (gN l k * W + c)) = q at *
      generalize gN NX (gN l k * W + c) = t at *
      generalize gN PL (gN l k) = p at *
      generalize gN l k = s at *
      have f1 : IntKind.i64.wrap ((s : Int) * (W : Int)) = ((s * W : Nat) : Int) := by rw [show (s : Int) * (W : Int) = ((s * W : Nat) : Int) by simp]; exact w64_n _ (by omega)
      generalize hmm : s * W = y at *
      have f3 : IntKind.i64.wrap ((y : Int) + (c : Int)) = ((y + c : Nat) : Int) := by rw [show (y : Int) + (c : Int) = ((y + c : Nat) : Int) by simp]; exact w64_n _ (by omega)
      have f4 : IntKind.i64.wrap ((p : Int) * 256) = (p : Int) * 256 := by rw [show (p : Int) * 256 = ((p * 256 : Nat) : Int) by simp]; exact w64_n _ (by omega)
      have f5 : IntKind.i64.wrap ((p : Int) * 256 + (q : Int)) = (o : Int) := by rw [show (p : Int) * 256 + (q : Int) = (o : Int) by omega]; exact w64_n _ (by omega)
      have hln : (y : Int) + (c : Int) < (NX.length : Int) := by omega
      have hlz : (0 : Int) ≤ (y : Int) + (c : Int) := by omega
      have hlt : ((y : Int) + (c : Int)).toNat = y + c := by omega
      have hs' : (s : Int) < (n : Int) := by omega
      have ht' : (t : Int) < (n : Int) := by omega
      have hoo : o < 65536 := by omega
      clear hmm hke
      go_wp2
      go_quiet (fail)
      obtain ⟨wq, hwq⟩ : ∃ wq, wq = wr.drewN nq := ⟨_, rfl⟩
      have FQ := hide (F.out.drew nq)
      rw [← hwq] at FQ ⊢
      clear hwq c1 sl sp sx so f1 f3 f4 f5 hln hlz hlt F S
      obtain ⟨s0, s1⟩ := FQ.out.slotN (i := 2) (by simp) rfl (k := o) (by omega)
      obtain ⟨s2, s3⟩ := FQ.out.slotN (i := 0) (by simp) rfl (k := s) (by omega)
      have hoi : (o : Int) < 65536 := by omega
      obtain ⟨q, hq⟩ : ∃ q, Hid (q = gN NU o) := ⟨_, rfl⟩
      rw [← hq.out] at s0 HOLD HNEW hqm
      by_cases hq0 : q = 0
      · subst hq0
        have S2 := hide (HNEW.out rfl)
        have F2 := hide (FQ.out.storeN (i := 2) (by simp) rfl o (m + 1))
        have ec : (((m + 1 : Nat) : Int)) = (m : Int) + 1 := by simp
        rw [ec] at F2
        have f1 : IntKind.i64.wrap ((m : Int) + 1) = (m : Int) + 1 := by rw [← ec]; exact w64_n _ (by omega)
        clear HOLD HNEW
        go_upto_region 10 with fail
        obtain ⟨wu, hwu⟩ : ∃ wu, wu = wq.setCell ⟨gn, o, none⟩ (.int .i64 ((m : Int) + 1)) := ⟨_, rfl⟩
        rw [← hwu] at F2 ⊢
        clear hwu s0 s1 s2 s3 FQ
        have sl := HLC.out wu _ _ _ F2.out
        obtain ⟨s0, _⟩ := F2.out.slotN (i := 2) (by simp) rfl (k := o) (by rw [List.length_set]; omega)
        rw [gN_sT (by omega), if_pos rfl, ec] at s0
        obtain ⟨s2, s3⟩ := F2.out.slotN (i := 0) (by simp) rfl (k := s) (by omega)
        have f2 : IntKind.i64.wrap ((m : Int) + 1 - 1) = (m : Int) := by rw [show (m : Int) + 1 - 1 = (m : Int) by omega]; exact w64_n _ (by omega)
        have F3 := hide ((F2.out.storeN (i := 0) (by simp) rfl s m).below (Below.refl _ _).drew)
        go_region
        all_goals
          go_wp2
          go_roundg (l.length - (k + 1) + 1)
          case measure => have := HG.out; omega
          case rel => exact ⟨k + 1, m + 1, _, _, by first | rfl | go_num | (congr 1; omega), by first | rfl | simp, by omega, by omega, F3, S2, by rw [List.length_set]; exact hQL, by rw [List.length_set]; exact hNU, by omega⟩
      · have hq1 : ((q : Int) == 0) = false := by simp; omega
        have hq2 : ¬ (q : Int) = 0 := by omega
        have S2 := hide (HOLD.out hq0)
        have F3 := hide ((FQ.out.storeN (i := 0) (by simp) rfl s (q - 1)).below (Below.refl _ _).drew)
        have ec : (((q - 1 : Nat) : Int)) = (q : Int) - 1 := by omega
        rw [ec] at F3
        have f1 : IntKind.i64.wrap ((q : Int) - 1) = (q : Int) - 1 := by rw [← ec]; exact w64_n _ (by omega)
        have sl := HLC.out wq _ _ _ FQ.out
        clear HOLD HNEW
        go_upto_region 10 with fail
        go_region
        all_goals
          go_wp2
          go_roundg (l.length - (k + 1) + 1)
          case measure => have := HG.out; omega
          case rel => exact ⟨k + 1, m, _, _, by first | rfl | go_num | (congr 1; omega), rfl, by omega, by omega, F3, S2, by rw [List.length_set]; exact hQL, hNU, by omega⟩
    · have hend : Hid (m ≤ 256 ∧ k = l.length ∨ m = 257) := by
        unfold Hid
        omega
      have Z0 : Hid (ZrS l key NU 0 NU) := ⟨rfl, fun x hx => ⟨hx, fun i hi => by omega⟩⟩
      have HGO : ((k : Int) < (l.length : Int)) ∧ ¬ ((m : Int) ≤ 256) ∨ ¬ ((k : Int) < (l.length : Int)) := by omega
      clear hgo HG
      rcases HGO with ⟨hA, hB⟩ | hA
      all_goals
        go_wp2
        go_loopg [20] (l.length + 1) (fun g y wr => ∃ (j : Nat) (N : List Nat), y = .int .i64 (j : Nat) ∧ j ≤ l.length ∧ Hid (Fr w0 ((.slice (some ⟨og, 0, none⟩) n n, 3, nCells QL) :: (.slice (some ⟨bx, 0, none⟩) 3 3, 24, [.string ⟨bs.toArray⟩, .slice na NX.length nc, .slice oo ol oc]) :: (.slice (some ⟨gn, 0, none⟩) 65536 65536, 3, nCells N) :: R1) wr) ∧ Hid (ZrS l key NU j N) ∧ l.length - j < g)
        case atStart => exact ⟨0, NU, rfl, by omega, F, Z0, by omega⟩
        case round =>
          clear F Z0
          obtain ⟨j, N, rfl, hj1, F, Z, hg⟩ := hrel
          have HG := hide hg
          clear hg
          by_cases hj : j < l.length
          · as_aux_lemma =>
            have hj' : (j : Int) < (l.length : Int) := by omega
            obtain ⟨h1, h2, h3, h4, h5⟩ := HKY.out j hj
            obtain ⟨kx, kl, kp, ko⟩ := HRD.out _ _ _ _ F.out
            have c1 := (F.out.slot (i := 1) (by simp) rfl (k := 1) (by simp)).1
            simp only [List.getElem_cons_succ, List.getElem_cons_zero] at c1
            obtain ⟨lb, loff, rfl, -, -⟩ := kl.get hj
            have sl := kl.atG hj
            obtain ⟨pb, poff, rfl, -, -⟩ := kp.get (i := gN l j) (by omega)
            have sp := kp.atG (i := gN l j) (by omega)
            obtain ⟨xb, xoff, rfl, -, -⟩ := kx.get h2
            have sx := kx.atG h2
            obtain ⟨ob, ooff, rfl, -, -⟩ := ko.get (i := gN NX (gN l j * W + c)) (by omega)
            have so := ko.atG (i := gN NX (gN l j * W + c)) (by omega)
            have hke : key (gN l j) = gN PL (gN l j) * 256 + gN OL (gN NX (gN l j * W + c)) := by rw [hkE.out]; rfl
            have Z2 : Hid (ZrS l key NU (j + 1) (N.set (key (gN l j)) 0)) := Z.out.next (by omega)
            have hNl := Z.out.len
            clear kx kl kp ko
            generalize key (gN l j) = o at *
            generalize gN OL (gN NX (gN l j * W + c)) = q at *
            generalize gN NX (gN l j * W + c) = t at *
            generalize gN PL (gN l j) = p at *
            generalize gN l j = s at *
            have f1 : IntKind.i64.wrap ((s : Int) * (W : Int)) = ((s * W : Nat) : Int) := by rw [show (s : Int) * (W : Int) = ((s * W : Nat) : Int) by simp]; exact w64_n _ (by omega)
            generalize hmm : s * W = y at *
            have f3 : IntKind.i64.wrap ((y : Int) + (c : Int)) = ((y + c : Nat) : Int) := by rw [show (y : Int) + (c : Int) = ((y + c : Nat) : Int) by simp]; exact w64_n _ (by omega)
            have f4 : IntKind.i64.wrap ((p : Int) * 256) = (p : Int) * 256 := by rw [show (p : Int) * 256 = ((p * 256 : Nat) : Int) by simp]; exact w64_n _ (by omega)
            have f5 : IntKind.i64.wrap ((p : Int) * 256 + (q : Int)) = (o : Int) := by rw [show (p : Int) * 256 + (q : Int) = (o : Int) by omega]; exact w64_n _ (by omega)
            have hln : (y : Int) + (c : Int) < (NX.length : Int) := by omega
            have hlz : (0 : Int) ≤ (y : Int) + (c : Int) := by omega
            have hlt : ((y : Int) + (c : Int)).toNat = y + c := by omega
            have hs' : (s : Int) < (n : Int) := by omega
            have ht' : (t : Int) < (n : Int) := by omega
            have hoo : (o : Int) < 65536 := by omega
            obtain ⟨s0, s1⟩ := F.out.slotN (i := 2) (by simp) rfl (k := o) (by omega)
            have F3 := hide ((F.out.storeN (i := 2) (by simp) rfl o 0).below (Below.refl _ _).drew)
            clear hmm hke
            go_wp2
            go_region
            all_goals
              go_wp2
              go_roundg (l.length - (j + 1) + 1)
              case measure => have := HG.out; omega
              case rel => exact ⟨j + 1, _, by first | rfl | go_num | (congr 1; omega), by omega, F3, Z2, by omega⟩
          · as_aux_lemma =>
            obtain rfl : j = l.length := by omega
            have hj' : ¬ (l.length : Int) < (l.length : Int) := by omega
            have HZ : Hid (N = zer 65536) := zero_list (Z.out.len.trans hNU) (Z.out.done S.out hk1)
            have FE := hide F.out.swap.tail
            rw [HZ.out] at FE
            go_wp2
            go_ret2
            exact ⟨og, m, rfl, QL, FE.out, hQL, NU, k, hk1, S.out, hend.out⟩
end Go.Proofs.YtdgoilkgplnhfaaGreat
/-
  Keys that are structs of one array: they are read as keys, and tell just their elements. Of the program its types alone: no condition.
-/
namespace Go.Proofs.YtdgoilkgplnhfaaGreat
open Go.RowKit Go.Lib Go.Maps

theorem mapM_some {α β : Type} (f : α → Option β) (g : α → β) : ∀ l : List α, (∀ x ∈ l, f x = some (g x)) → l.mapM f = some (l.map g)
  | [], _ => rfl
  | x :: l, h => by
    rw [List.mapM_cons, h x List.mem_cons_self, mapM_some f g l (fun y hy => h y (List.mem_cons_of_mem _ hy))]
    rfl
theorem size_types : Tryz.prog.types.size = 253 := by kernel_rfl
theorem cells169 : Tryz.prog.cellsOf 169 = 256 ∧ Tryz.prog.cellsOf 167 = 256 ∧ Tryz.prog.cellsOf 5 = 1 := ⟨by kernel_rfl, by kernel_rfl, by kernel_rfl⟩
theorem ktype169 : Tryz.prog.keyType 169 = true := by kernel_rfl
theorem u8_key (b : Nat) (hb : b < 256) (d : Nat) : Tryz.prog.keyLits (d + 1) 5 [.int .u8 (b : Int)] = some [.int .u8 (b : Int)] := by
  unfold Program.keyLits
  simp only [Tryz.underlying5]
  rw [if_pos (by simp [Lit.wf, IntKind.min, IntKind.max, IntKind.signed, IntKind.bits]; omega)]
theorem keyOf_leads (B : List Nat) (hl : B.length = 256) (hv : ∀ x ∈ B, x < 256) : ∃ l, keyOf Tryz.prog 169 (.agg (B.map fun (b : Nat) => Value.int .u8 (b : Int)).toArray) = some l := by
  obtain ⟨c1, c2, c3⟩ := cells169
  have hlits : ∃ ls, Tryz.prog.keyLits (Tryz.prog.types.size + 1) 169 (B.map fun (b : Nat) => Value.int .u8 (b : Int)) = some ls := by
    rw [size_types]
    unfold Program.keyLits
    simp only [Tryz.underlying169]
    have hlen : (B.map fun (b : Nat) => Value.int .u8 (b : Int)).length = 256 := by rw [List.length_map, hl]
    rw [if_pos ⟨by rw [hlen, c1], by first | (simp; done) | kernel_rfl⟩]
    have h167 : ∃ ls, Tryz.prog.keyLits 253 167 (B.map fun (b : Nat) => Value.int .u8 (b : Int)) = some ls := by
      unfold Program.keyLits
      simp only [Tryz.underlying167]
      rw [if_pos (by rw [hlen, c2]), mapM_some _ (fun i => [Lit.int .u8 ((gN B i : Nat) : Int)]) (List.range 256) (fun i hi => ?_)]
      · exact ⟨_, rfl⟩
      · have hi' : i < B.length := by rw [hl]; exact List.mem_range.1 hi
        have e : ((B.map fun (b : Nat) => Value.int .u8 (b : Int)).drop (i * Tryz.prog.cellsOf 5)).take (Tryz.prog.cellsOf 5) = [.int .u8 ((gN B i : Nat) : Int)] := by
          rw [c3, Nat.mul_one, List.drop_eq_getElem_cons (by rw [List.length_map]; exact hi'), gN_lt hi']
          simp
        rw [e]
        exact u8_key _ (by rw [gN_lt hi']; exact hv _ (List.getElem_mem hi')) 251
    obtain ⟨ls, hls⟩ := h167
    have e : ((B.map fun (b : Nat) => Value.int .u8 (b : Int)).drop 0).take (Tryz.prog.cellsOf 167) = B.map fun (b : Nat) => Value.int .u8 (b : Int) := by
      rw [List.drop_zero, c2, List.take_of_length_le (by rw [hlen]; exact Nat.le_refl _)]
    simp only [List.mapM_cons, List.mapM_nil, e, hls]
    exact ⟨_, rfl⟩
  obtain ⟨ls, hls⟩ := hlits
  unfold keyOf
  simp only [Tryz.underlying169]
  rw [if_pos (by
    rw [ktype169]
    simp [Value.formed, Tryz.underlying169, c1, hl])]
  have e : (Value.agg (B.map fun (b : Nat) => Value.int .u8 (b : Int)).toArray).cells.toList = B.map fun (b : Nat) => Value.int .u8 (b : Int) := by simp [Value.cells]
  rw [e, hls]
  exact ⟨_, rfl⟩
theorem keyed169 : Keyed Tryz.prog 169 := Keyed.of_law (deep_law_laid (m := 254) (by kernel_rfl) (by decide) (by rw [size_types]; decide) (by kernel_rfl) (by simp [Tryz.underlying169]))
end Go.Proofs.YtdgoilkgplnhfaaGreat
