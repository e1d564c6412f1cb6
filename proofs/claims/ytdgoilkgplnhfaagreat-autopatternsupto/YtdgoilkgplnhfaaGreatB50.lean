/-
  AutoPatterns answers true. Conditions: patterns of at most 2^32 bytes, texts no longer than a process can hold.
-/
import Derived.Test.YtdgoilkgplnhfaaGreatB49
import Derived.BigQuiet
import Derived.Deep.RegionWith
import Derived.Deep.DeepCutAuto
namespace Go.Proofs.YtdgoilkgplnhfaaGreat
open Go.RowKit Go.Lib

set_option maxRecDepth 100000 in
set_option maxHeartbeats 8000000 in
theorem autoPatterns_any (one two : By) (ta : Option Addr) (tc : Nat) (TS : List By) (w : World) (hp1 : one.length ≤ 4294967296) (hp2 : two.length ≤ 4294967296) (htn : TS.length ≤ 140737488351232) (hts : ∀ t ∈ TS, t.length ≤ 140737488351232) (hat : SAt w ta TS) :
    Calls Tryz.prog 7 #[.string ⟨one.toArray⟩, .string ⟨two.toArray⟩, .slice ta TS.length tc] w fun e w' => e = .returned (.bool true) ∧ Below w.heap.size w w' := by
  have HK := hide (known_any w)
  have HP1 : Hid (∀ V, _) := fun V => parseQ_any one V hp1
  have HP2 : Hid (∀ V, _) := fun V => parseQ_any two V hp2
  have HTS := hide hts
  have HAT := hide hat
  clear hts hat
  go_enter Tryz.func7, Tryz.ntmps7
  go_upto_region 2 with (go_at_call 10; refine HK.out.mono ?_; rintro e w1 ⟨rfl, x1⟩; have X1 := hide x1; clear x1 HK)
  go_upto_region 3 with (go_at_call 22; refine (HP1.out _).mono ?_; rintro e w2 ⟨⟨pa, pn, pc, k1, m1, rfl, h1⟩, x2⟩; have X2 := hide (bt X1.out x2 (Nat.le_refl _)); have H1 := hide h1; clear x2 h1 HP1)
  go_upto_region 4 with (go_at_call 22; refine (HP2.out _).mono ?_; rintro e w3 ⟨⟨qa, qn, qc, k2, m2, rfl, h2⟩, x3⟩; have X23 := hide x3; have X3 := hide (bt X2.out x3 (Nat.le_refl _)); have H2 := hide h2; clear x3 h2 HP2)
  rcases H1.out with ⟨rfl, D1, rfl, hR1, ha1⟩ | rfl
  · rcases H2.out with ⟨rfl, D2, rfl, hR2, ha2⟩ | rfl
    · have HO1 := hide (ofQ_any pa pc D1 w3 hR1 (ha1.below X23.out))
      have HO2 : Hid (∀ V, Below w3.heap.size w3 V → _) := fun V x => ofQ_any qa qc D2 V hR2 (ha2.below x)
      go_upto_region 7 with (go_at_call 20; refine HO1.out.mono ?_; rintro e w4 ⟨⟨bsA, xA, xAn, xAc, oA, oAn, oAc, g1, rfl, h1⟩, x4⟩; have X4 := hide x4; have HF1 := hide h1; clear x4 h1 HO1)
      have x5 : Below w4.heap.size w4 (w4.alloc (.cells #[.string ⟨bsA.toArray⟩, .slice xA xAn xAc, .slice oA oAn oAc] 24)) := al (Below.refl _ _) _
      have B5 := heap_alloc_new w4 (.cells #[.string ⟨bsA.toArray⟩, .slice xA xAn xAc, .slice oA oAn oAc] 24)
      obtain ⟨w5, hw5⟩ : ∃ w5, w5 = w4.alloc (.cells #[.string ⟨bsA.toArray⟩, .slice xA xAn xAc, .slice oA oAn oAc] 24) := ⟨_, rfl⟩
      obtain ⟨pA, hpA⟩ : ∃ pA, pA = w4.heap.size := ⟨_, rfl⟩
      rw [← hw5] at x5 B5 ⊢
      rw [← hpA] at B5 ⊢
      have X45 := hide x5
      have HB5 := hide B5
      have X5 := hide (bt X4.out x5 (Nat.le_refl _))
      clear x5 B5 hw5 hpA
      go_upto_region 8 with (go_at_call 20; refine (HO2.out _ X5.out).mono ?_; rintro e w6 ⟨⟨bsB, xB, xBn, xBc, oB, oBn, oBc, g2, rfl, h1⟩, x6⟩; have X6 := hide x6; have HF2 := hide h1; clear x6 h1 HO2)
      have x7 : Below w6.heap.size w6 (w6.alloc (.cells #[.string ⟨bsB.toArray⟩, .slice xB xBn xBc, .slice oB oBn oBc] 24)) := al (Below.refl _ _) _
      have B7 := heap_alloc_new w6 (.cells #[.string ⟨bsB.toArray⟩, .slice xB xBn xBc, .slice oB oBn oBc] 24)
      obtain ⟨w7, hw7⟩ : ∃ w7, w7 = w6.alloc (.cells #[.string ⟨bsB.toArray⟩, .slice xB xBn xBc, .slice oB oBn oBc] 24) := ⟨_, rfl⟩
      obtain ⟨pB, hpB⟩ : ∃ pB, pB = w6.heap.size := ⟨_, rfl⟩
      rw [← hw7] at x7 B7 ⊢
      rw [← hpB] at B7 ⊢
      have X67 := hide x7
      have HB7 := hide B7
      have X57 := hide (bt X6.out x7 (Nat.le_refl _))
      have X37 := hide (bt X5.out X57.out (Nat.le_refl _))
      have XW7 := hide (bt X3.out X37.out (Nat.le_refl _))
      clear x7 B7 hw7 hpB
      rcases HF1.out with ⟨rfl, NA, OA, rfl, rfl, hf1⟩ | rfl
      · rcases HF2.out with ⟨rfl, NB, OB, rfl, rfl, hf2⟩ | rfl
        · have HA1 := hide hf1
          have HA2 := hide hf2
          have HK7 : Hid (∀ V, Below w7.heap.size w7 V → ((V.cell? ⟨pA, 0, none⟩ = some (.string ⟨bsA.toArray⟩) ∧ V.cell? ⟨pA, 1, none⟩ = some (.slice xA NA.length xAc) ∧ V.cell? ⟨pA, 2, none⟩ = some (.slice oA OA.length oAc)) ∧ (V.cell? ⟨pB, 0, none⟩ = some (.string ⟨bsB.toArray⟩) ∧ V.cell? ⟨pB, 1, none⟩ = some (.slice xB NB.length xBc) ∧ V.cell? ⟨pB, 2, none⟩ = some (.slice oB OB.length oBc))) ∧ AtA V bsA xA oA NA OA ∧ AtA V bsB xB oB NB OB ∧ PcAt V pa D1 ∧ PcAt V qa D2 ∧ SAt V ta TS) := fun V x => by
            have x5 := bt X57.out x (Nat.le_refl _)
            have x3 := bt X37.out x (Nat.le_refl _)
            have Bv := (x5.block _ (lt_of_block HB5.out)).trans HB5.out
            have Bw := (x.block _ (lt_of_block HB7.out)).trans HB7.out
            exact ⟨⟨⟨by rw [cell_of_row _ _ _ _ _ _ Bv]; rfl, by rw [cell_of_row _ _ _ _ _ _ Bv]; rfl, by rw [cell_of_row _ _ _ _ _ _ Bv]; rfl⟩, ⟨by rw [cell_of_row _ _ _ _ _ _ Bw]; rfl, by rw [cell_of_row _ _ _ _ _ _ Bw]; rfl, by rw [cell_of_row _ _ _ _ _ _ Bw]; rfl⟩⟩, HA1.out.at'.below (bt X45.out x5 (Nat.le_refl _)), HA2.out.at'.below (bt X67.out x (Nat.le_refl _)), (ha1.below X23.out).below x3, ha2.below x3, HAT.out.below (bt XW7.out x (Nat.le_refl _))⟩
          obtain ⟨⟨⟨c0, c1, c2⟩, ⟨d0, d1, d2⟩⟩, kA, kB, _⟩ := HK7.out w7 (Below.refl _ _)
          have HJ := hide (joinQ_any bsA bsB xA oA xB oB xAc oAc xBc oBc NA OA NB OB w7 kA kB)
          clear kA kB hf1 hf2 ha1 ha2
          go_upto_region 11 with (go_at_call 23; refine HJ.out.mono ?_; rintro e w8 ⟨⟨bs, xa, xn, xc, oa, on, oc, ga, gn, gc, k3, rfl, h1⟩, x8⟩; have X8 := hide x8; have HF3 := hide h1; clear x8 h1 HJ)
          clear c0 c1 c2 d0 d1 d2
          have x9 : Below w8.heap.size w8 (w8.alloc (.cells #[.string ⟨bs.toArray⟩, .slice xa xn xc, .slice oa on oc] 24)) := al (Below.refl _ _) _
          have B9 := heap_alloc_new w8 (.cells #[.string ⟨bs.toArray⟩, .slice xa xn xc, .slice oa on oc] 24)
          obtain ⟨w9, hw9⟩ : ∃ w9, w9 = w8.alloc (.cells #[.string ⟨bs.toArray⟩, .slice xa xn xc, .slice oa on oc] 24) := ⟨_, rfl⟩
          obtain ⟨pC, hpC⟩ : ∃ pC, pC = w8.heap.size := ⟨_, rfl⟩
          rw [← hw9] at x9 B9 ⊢
          rw [← hpC] at B9 ⊢
          have X89 := hide x9
          have HB9 := hide B9
          have X79 := hide (bt X8.out x9 (Nat.le_refl _))
          have XW9 := hide (bt XW7.out X79.out (Nat.le_refl _))
          clear x9 B9 hw9 hpC
          rcases HF3.out with ⟨rfl, NX, OU, g, P, rfl, rfl, rfl, rfl, hj⟩ | rfl
          · as_aux_lemma =>
            have HJR := hide (hj.below X89.out)
            have HKC : Hid (∀ V, Below w9.heap.size w9 V → (V.cell? ⟨pC, 0, none⟩ = some (.string ⟨bs.toArray⟩) ∧ V.cell? ⟨pC, 1, none⟩ = some (.slice xa NX.length xc) ∧ V.cell? ⟨pC, 2, none⟩ = some (.slice oa OU.length oc)) ∧ JoR (dfA bsA NA OA) (dfA bsB NB OB) V bs xa oa NX OU g gc P) := fun V x => by
              have Bv := (x.block _ (lt_of_block HB9.out)).trans HB9.out
              exact ⟨⟨by rw [cell_of_row _ _ _ _ _ _ Bv]; rfl, by rw [cell_of_row _ _ _ _ _ _ Bv]; rfl, by rw [cell_of_row _ _ _ _ _ _ Bv]; rfl⟩, HJR.out.below x⟩
            have hPf : P.length ≤ 256 := by have h1 := hj.few; have h2 := hj.at'.n; omega
            obtain ⟨i3, hi3, hz30, hz31, hz32⟩ := info_parts Tryz.info3n
            clear hj
            go_wp2
            go_loopg [21, 22, 23] (P.length + 1) (fun gg x y z wr => ∃ n : Nat, z = .int .i64 (n : Nat) ∧ n ≤ P.length ∧ Hid (PvS w9 P n n x y wr) ∧ P.length - n < gg)
            case atStart =>
              refine ⟨0, rfl, by omega, ⟨?_, ?_, (fun b hb => by cases hb), Below.refl _ _⟩, by omega⟩
              · exact ⟨rfl, .inl ⟨rfl, rfl⟩⟩
              · exact ⟨rfl, .inl ⟨rfl, rfl⟩⟩
            case round =>
              obtain ⟨n, rfl, hn1, HS, hg⟩ := hrel
              have HG := hide hg
              clear hg
              by_cases hn : n < P.length
              · as_aux_lemma =>
                have hn' : (n : Int) < (P.length : Int) := by omega
                obtain ⟨p, hp⟩ : ∃ p : Spn, Hid (p = gQ P n) := ⟨_, rfl⟩
                have HQ : Hid (∀ V, Below w9.heap.size w9 V → V.cell? ⟨g, n * 2, none⟩ = some (.int .i64 p.1) ∧ V.cell? ⟨g, n * 2 + 1, none⟩ = some (.int .i64 p.2)) := fun V x => by
                  obtain ⟨b0, oq⟩ := (HKC.out V x).2.q
                  obtain ⟨s0, s1, _, _⟩ := OwnQ.cells oq (i := n) hn
                  rw [hp.out]
                  exact ⟨s0, s1⟩
                have HONE : Hid (∀ (V : World) (z : Int) (j : Nat) (u : Value), [Value.int .i64 z][j]? = some u → (V.alloc (.cells #[.int .i64 z] 3)).cell? ((⟨V.heap.size, 0, none⟩ : Addr).add j) = some u) := fun V z j u hu => by
                  have hB := heap_alloc_new V (.cells #[.int .i64 z] 3)
                  rw [addr_add, cell_of_row _ _ _ _ _ _ hB]
                  simpa using hu
                have HA1 : Hid (∀ v6 w6, w6.ownsRow w9.heap.size 3 1 v6 (n + 1) (zC ((P.take n).map (·.1)) ++ [.int .i64 p.1]) → AppAt (wr.alloc (.cells #[.int .i64 p.1] 3)) w6 u21 v6 → PvS w9 P (n + 1) n v6 u22 w6) := fun v6 w6 g1 g2 => by
                  rw [hp.out] at g1 g2
                  exact HS.out.app1 hn g1 g2
                have O5 : Hid ((wr.alloc (.cells #[.int .i64 p.1] 3)).ownsRow w9.heap.size 3 1 u21 n (zC ((P.take n).map (·.1)))) := own_below HS.out.o1 (al (Below.refl _ _) _)
                have HS5 : Hid (w9.heap.size ≤ (wr.alloc (.cells #[.int .i64 p.1] 3)).heap.size) := Nat.le_trans HS.out.bel.size (al (Below.refl wr.heap.size wr) (.cells #[.int .i64 p.1] 3)).size
                have HN5 := hide (HONE.out wr p.1)
                obtain ⟨s0, s1⟩ := HQ.out wr HS.out.bel
                go_upto_region 18 with fail
                go_upto_region 19 with (at_builtin; refine wpList_append_view rfl (.tmp 115) (.tmp 121) 22 rfl w9.heap.size 3 i3 (.int .i64 0) 1 8 Tryz.underlying22 hi3 hz30 hz31 hz32 rfl (by decide) _ n _ rfl O5.out ⟨wr.heap.size, 0, none⟩ 1 1 [.int .i64 p.1] rfl rfl HN5.out (by simp [Value.oneCell']) (by decide) (by unfold maxLen; omega) (by omega) HS5.out ?_; intro v6 w6' g1 g2; have S6 := hide (HA1.out v6 w6' g1 g2); clear g1 g2)
                clear s0 s1 HA1 O5 HS5 HN5
                have HA2 : Hid (∀ v7 w7', w7'.ownsRow w9.heap.size 3 1 v7 (n + 1) (zC ((P.take n).map (·.2)) ++ [.int .i64 p.2]) → AppAt (w6'.alloc (.cells #[.int .i64 p.2] 3)) w7' u22 v7 → PvS w9 P (n + 1) (n + 1) v6 v7 w7') := fun v7 w7' g1 g2 => by
                  rw [hp.out] at g1 g2
                  exact S6.out.app2 hn g1 g2
                have O5 : Hid ((w6'.alloc (.cells #[.int .i64 p.2] 3)).ownsRow w9.heap.size 3 1 u22 n (zC ((P.take n).map (·.2)))) := own_below S6.out.o2 (al (Below.refl _ _) _)
                have HS5 : Hid (w9.heap.size ≤ (w6'.alloc (.cells #[.int .i64 p.2] 3)).heap.size) := Nat.le_trans S6.out.bel.size (al (Below.refl w6'.heap.size w6') (.cells #[.int .i64 p.2] 3)).size
                have HN5 := hide (HONE.out w6' p.2)
                obtain ⟨s0, s1⟩ := HQ.out w6' S6.out.bel
                go_upto_region 20 with (at_builtin; refine wpList_append_view rfl (.tmp 123) (.tmp 129) 22 rfl w9.heap.size 3 i3 (.int .i64 0) 1 8 Tryz.underlying22 hi3 hz30 hz31 hz32 rfl (by decide) _ n _ rfl O5.out ⟨w6'.heap.size, 0, none⟩ 1 1 [.int .i64 p.2] rfl rfl HN5.out (by simp [Value.oneCell']) (by decide) (by unfold maxLen; omega) (by omega) HS5.out ?_; intro v7 w7' g1 g2; have S7 := hide (HA2.out v7 w7' g1 g2); clear g1 g2)
                clear s0 s1 HA2 O5 HS5 HN5 S6 HS
                have HSH : Hid (Calls Tryz.prog 29 #[.agg #[.string ⟨bs.toArray⟩, .slice xa NX.length xc, .slice oa OU.length oc], .int .i64 (n : Int)] w7' fun e w' => (∃ s : By, e = .returned (.tuple #[.string ⟨s.toArray⟩, .bool true, .int .i64 0]) ∧ (dfA bs NX OU).lab 0 (ntL s) = (n : Int) ∧ s.length ≤ 140737488351232) ∧ Below w7'.heap.size w7' w') := by
                  have hj := (HKC.out w7' S7.out.bel).2
                  refine (hj.at'.short xc oc (n : Int)).mono ?_
                  rintro e w' ⟨⟨s, is, rfl, hsr⟩, x⟩
                  obtain ⟨rfl, h1, h2⟩ := hj.short hn hsr
                  exact ⟨⟨s, rfl, h1, h2⟩, x⟩
                obtain ⟨⟨c0, c1, c2⟩, _⟩ := HKC.out w7' S7.out.bel
                go_upto_region 21 with (go_at_call 29; refine HSH.out.mono ?_; rintro e w10 ⟨⟨s, rfl, hlb, hsl⟩, x10⟩; have S10 := hide (S7.out.below x10); have HLB := hide hlb; clear x10 hlb)
                clear c0 c1 c2 HSH
                have HRU : Hid (Calls Tryz.prog 27 #[.agg #[.string ⟨bs.toArray⟩, .slice xa NX.length xc, .slice oa OU.length oc], .string ⟨s.toArray⟩] w10 fun e w' => e = .returned (.tuple #[.int .i64 (n : Int), .int .i64 0]) ∧ Below w10.heap.size w10 w') := by
                  have := (HKC.out w10 S10.out.bel).2.at'.run xc oc s hsl
                  rw [HLB.out] at this
                  exact this
                obtain ⟨⟨c0, c1, c2⟩, _⟩ := HKC.out w10 S10.out.bel
                go_upto_region 22 with (go_at_call 27; refine HRU.out.mono ?_; rintro e w11 ⟨rfl, x11⟩; have S11 := hide (S10.out.below x11); clear x11)
                clear c0 c1 c2 HRU S7 S10
                obtain ⟨s0, s1⟩ := HQ.out w11 S11.out.bel
                cases n with
                | zero =>
                  as_aux_lemma =>
                    go_quiet (fail)
                    have S12 : Hid (PvS w9 P (0 + 1) (0 + 1) v6 v7 (w11.drewN nq)) := S11.out.below ⟨rfl, rfl, rfl, Nat.le_refl _, fun _ _ => rfl⟩
                    go_wp2
                    go_roundg (P.length - 1 + 1)
                    case measure => have := HG.out; omega
                    case rel => exact ⟨0 + 1, by first | rfl | go_num | (congr 1; omega), by omega, S12, by omega⟩
                | succ m =>
                  obtain ⟨q, hq⟩ : ∃ q : Spn, Hid (q = gQ P m) := ⟨_, rfl⟩
                  have ⟨r0, r1⟩ : w11.cell? ⟨g, m * 2, none⟩ = some (.int .i64 q.1) ∧ w11.cell? ⟨g, m * 2 + 1, none⟩ = some (.int .i64 q.2) := by
                    obtain ⟨b0, oq⟩ := (HKC.out w11 S11.out.bel).2.q
                    obtain ⟨s0, s1, _, _⟩ := OwnQ.cells oq (i := m) (by omega)
                    rw [hq.out]
                    exact ⟨s0, s1⟩
                  have hpl : PLt q p := by
                    rw [hq.out, hp.out, gQ_lt (show m < P.length by omega), gQ_lt hn]
                    exact List.pairwise_iff_getElem.1 HJR.out.up m (m + 1) (by omega) hn (by omega)
                  have hsub : ((m + 1 : Nat) : Int) - 1 = (m : Int) := by omega
                  have hm' : (m : Int) < (P.length : Int) := by omega
                  have hgt : (0 : Int) < ((m + 1 : Nat) : Int) := by omega
                  have HPL := hide hpl
                  clear HKC HQ HONE
                  rcases hpl with h1 | ⟨h1, h2⟩
                  · as_aux_lemma =>
                      have h2 : decide (p.1 < q.1) = false := decide_eq_false (by omega)
                      have h3 : ¬ p.1 < q.1 := by omega
                      have h4 : (p.1 == q.1) = false := by simp; omega
                      have h5 : ¬ p.1 = q.1 := by omega
                      go_quiet (fail)
                      have S12 : Hid (PvS w9 P (m + 1 + 1) (m + 1 + 1) v6 v7 (w11.drewN nq)) := S11.out.below ⟨rfl, rfl, rfl, Nat.le_refl _, fun _ _ => rfl⟩
                      go_wp2
                      go_roundg (P.length - (m + 1 + 1) + 1)
                      case measure => have := HG.out; omega
                      case rel => exact ⟨m + 1 + 1, by first | rfl | go_num | (congr 1; omega), by omega, S12, by omega⟩
                  · as_aux_lemma =>
                      clear HPL hp hq
                      obtain ⟨y1, y2⟩ := p
                      obtain ⟨z1, z2⟩ := q
                      have h1 : z1 = y1 := h1
                      subst h1
                      have h2 : z2 < y2 := h2
                      have h3 : decide (z1 < z1) = false := decide_eq_false (by omega)
                      have h7 : decide (y2 ≤ z2) = false := decide_eq_false (by omega)
                      have h8 : ¬ y2 ≤ z2 := by omega
                      go_quiet (fail)
                      have S12 : Hid (PvS w9 P (m + 1 + 1) (m + 1 + 1) v6 v7 (w11.drewN nq)) := S11.out.below ⟨rfl, rfl, rfl, Nat.le_refl _, fun _ _ => rfl⟩
                      go_wp2
                      go_roundg (P.length - (m + 1 + 1) + 1)
                      case measure => have := HG.out; omega
                      case rel => exact ⟨m + 1 + 1, by first | rfl | go_num | (congr 1; omega), by omega, S12, by omega⟩
              · as_aux_lemma =>
                obtain rfl : n = P.length := by omega
                have hPn : P.take P.length = P := List.take_length
                obtain ⟨fa, fc, rfl, hz1⟩ : ∃ ao cap, u21 = .slice ao P.length cap ∧ ZAt wr ao (P.map (·.1)) := by
                  have h := own_sl HS.out.o1
                  rw [hPn] at h; exact h
                obtain ⟨sa, sc, rfl, hz2⟩ : ∃ ao cap, u22 = .slice ao P.length cap ∧ ZAt wr ao (P.map (·.2)) := by
                  have h := own_sl HS.out.o2
                  rw [hPn] at h; exact h
                have XS := hide HS.out.bel
                have HZ1 := hide hz1
                have HZ2 := hide hz2
                have hn' : ¬ (P.length : Int) < (P.length : Int) := by omega
                clear hz1 hz2 HS HG hPn hn hn1
                have HLN : Hid (∀ V, Below w9.heap.size w9 V → NX.length ≤ 140737488351232 ∧ OU.length ≤ 140737488351232) := fun V x => by
                  have hj := (HKC.out V x).2
                  have h1 := hj.at'.may.nxl
                  have h2 := hj.at'.n
                  constructor <;> omega
                have HLA : Hid (NA.length ≤ 140737488351232 ∧ OA.length ≤ 140737488351232) := by
                  have hj := (HK7.out w7 (Below.refl _ _)).2.1
                  have h1 := hj.may.nxl
                  have h2 := hj.n
                  constructor <;> omega
                have HLB : Hid (NB.length ≤ 140737488351232 ∧ OB.length ≤ 140737488351232) := by
                  have hj := (HK7.out w7 (Below.refl _ _)).2.2.1
                  have h1 := hj.may.nxl
                  have h2 := hj.n
                  constructor <;> omega
                have HM1 : Hid (Calls Tryz.prog 25 #[.agg #[.string ⟨bs.toArray⟩, .slice xa NX.length xc, .slice oa OU.length oc], .slice fa P.length fc] wr fun e w' => (∃ ya yc za zc, e = .returned (.tuple #[.agg #[.string ⟨bsA.toArray⟩, .slice ya NA.length yc, .slice za OA.length zc], .int .i64 0]) ∧ NAt w' ya NA ∧ NAt w' za OA) ∧ Below wr.heap.size wr w') := by
                  have hj := (HKC.out wr XS.out).2
                  have hl := HLN.out wr XS.out
                  have hA := (HK7.out w7 (Below.refl _ _)).2.1
                  have := map_any bs xa oa fa xc oc fc (zN NX) (zN OU) (P.map (·.1)) wr (by rw [zN_len]; omega) (by rw [zN_len]; omega) hj.at'.nx.int hj.at'.ou.int HZ1.out
                  rw [zN_len, zN_len, List.length_map] at this
                  unfold auV at this
                  refine this.mono ?_
                  rintro e w' ⟨hm, x⟩
                  exact ⟨hj.map (·.1) (fun _ _ => rfl) hA.may hA.rt hA.n hm, x⟩
                obtain ⟨⟨c0, c1, c2⟩, _⟩ := HKC.out wr XS.out
                go_upto_region 25 with (go_at_call 25; refine HM1.out.mono ?_; rintro e w12 ⟨⟨ya, yc, za, zc, rfl, hy, hz⟩, x12⟩; have HY := hide hy; have HZ := hide hz; have X12 := hide x12; clear hy hz x12)
                clear c0 c1 c2 HM1
                have x13 : Below w12.heap.size w12 (w12.alloc (.cells #[.string ⟨bsA.toArray⟩, .slice ya NA.length yc, .slice za OA.length zc] 24)) := al (Below.refl _ _) _
                have B13 := heap_alloc_new w12 (.cells #[.string ⟨bsA.toArray⟩, .slice ya NA.length yc, .slice za OA.length zc] 24)
                obtain ⟨w13, hw13⟩ : ∃ w13, w13 = w12.alloc (.cells #[.string ⟨bsA.toArray⟩, .slice ya NA.length yc, .slice za OA.length zc] 24) := ⟨_, rfl⟩
                obtain ⟨pX, hpX⟩ : ∃ pX, pX = w12.heap.size := ⟨_, rfl⟩
                rw [← hw13] at x13 B13 ⊢
                rw [← hpX] at B13 ⊢
                have XR13 := hide (bt X12.out x13 (Nat.le_refl _))
                have X913 := hide (bt XS.out XR13.out (Nat.le_refl _))
                have HKX : Hid (∀ V, Below w13.heap.size w13 V → (V.cell? ⟨pX, 0, none⟩ = some (.string ⟨bsA.toArray⟩) ∧ V.cell? ⟨pX, 1, none⟩ = some (.slice ya NA.length yc) ∧ V.cell? ⟨pX, 2, none⟩ = some (.slice za OA.length zc)) ∧ NAt V ya NA ∧ NAt V za OA) := fun V x => by
                  have Bv := (x.block _ (lt_of_block B13)).trans B13
                  have y := bt x13 x (Nat.le_refl _)
                  exact ⟨⟨by rw [cell_of_row _ _ _ _ _ _ Bv]; rfl, by rw [cell_of_row _ _ _ _ _ _ Bv]; rfl, by rw [cell_of_row _ _ _ _ _ _ Bv]; rfl⟩, HY.out.below y, HZ.out.below y⟩
                clear x13 B13 hw13 hpX X12 HY HZ
                have HM2 : Hid (Calls Tryz.prog 25 #[.agg #[.string ⟨bs.toArray⟩, .slice xa NX.length xc, .slice oa OU.length oc], .slice sa P.length sc] w13 fun e w' => (∃ ya yc za zc, e = .returned (.tuple #[.agg #[.string ⟨bsB.toArray⟩, .slice ya NB.length yc, .slice za OB.length zc], .int .i64 0]) ∧ NAt w' ya NB ∧ NAt w' za OB) ∧ Below w13.heap.size w13 w') := by
                  have hj := (HKC.out w13 X913.out).2
                  have hl := HLN.out w13 X913.out
                  have hA := (HK7.out w7 (Below.refl _ _)).2.2.1
                  have := map_any bs xa oa sa xc oc sc (zN NX) (zN OU) (P.map (·.2)) w13 (by rw [zN_len]; omega) (by rw [zN_len]; omega) hj.at'.nx.int hj.at'.ou.int (HZ2.out.below XR13.out)
                  rw [zN_len, zN_len, List.length_map] at this
                  unfold auV at this
                  refine this.mono ?_
                  rintro e w' ⟨hm, x⟩
                  exact ⟨hj.map (·.2) (fun _ _ => rfl) hA.may hA.rt hA.n hm, x⟩
                obtain ⟨⟨c0, c1, c2⟩, _⟩ := HKC.out w13 X913.out
                go_upto_region 26 with (go_at_call 25; refine HM2.out.mono ?_; rintro e w14 ⟨⟨ua, uc, va, vc, rfl, hy, hz⟩, x14⟩; have HY := hide hy; have HZ := hide hz; have X14 := hide x14; clear hy hz x14)
                clear c0 c1 c2 HM2 HZ1 HZ2
                have x15 : Below w14.heap.size w14 (w14.alloc (.cells #[.string ⟨bsB.toArray⟩, .slice ua NB.length uc, .slice va OB.length vc] 24)) := al (Below.refl _ _) _
                have B15 := heap_alloc_new w14 (.cells #[.string ⟨bsB.toArray⟩, .slice ua NB.length uc, .slice va OB.length vc] 24)
                obtain ⟨w15, hw15⟩ : ∃ w15, w15 = w14.alloc (.cells #[.string ⟨bsB.toArray⟩, .slice ua NB.length uc, .slice va OB.length vc] 24) := ⟨_, rfl⟩
                obtain ⟨pY, hpY⟩ : ∃ pY, pY = w14.heap.size := ⟨_, rfl⟩
                rw [← hw15] at x15 B15 ⊢
                rw [← hpY] at B15 ⊢
                have X1315 := hide (bt X14.out x15 (Nat.le_refl _))
                have X915 := hide (bt X913.out X1315.out (Nat.le_refl _))
                have HKY : Hid (∀ V, Below w15.heap.size w15 V → (V.cell? ⟨pY, 0, none⟩ = some (.string ⟨bsB.toArray⟩) ∧ V.cell? ⟨pY, 1, none⟩ = some (.slice ua NB.length uc) ∧ V.cell? ⟨pY, 2, none⟩ = some (.slice va OB.length vc)) ∧ NAt V ua NB ∧ NAt V va OB) := fun V x => by
                  have Bv := (x.block _ (lt_of_block B15)).trans B15
                  have y := bt x15 x (Nat.le_refl _)
                  exact ⟨⟨by rw [cell_of_row _ _ _ _ _ _ Bv]; rfl, by rw [cell_of_row _ _ _ _ _ _ Bv]; rfl, by rw [cell_of_row _ _ _ _ _ _ Bv]; rfl⟩, HY.out.below y, HZ.out.below y⟩
                clear x15 B15 hw15 hpY X14 HY HZ
                have X715 := hide (bt X79.out X915.out (Nat.le_refl _))
                have HS1 : Hid (Calls Tryz.prog 14 #[.agg #[.string ⟨bsA.toArray⟩, .slice ya NA.length yc, .slice za OA.length zc], .agg #[.string ⟨bsA.toArray⟩, .slice xA NA.length xAc, .slice oA OA.length oAc]] w15 fun e w' => e = .returned (.bool true) ∧ Below w15.heap.size w15 w') := by
                  obtain ⟨_, k1, k2⟩ := HKX.out w15 X1315.out
                  have hA := (HK7.out w15 X715.out).2.1
                  exact same_any bsA ya za xA oA yc zc xAc oAc NA OA w15 HLA.out.1 HLA.out.2 k1 k2 hA.nx hA.ou
                obtain ⟨⟨⟨c0, c1, c2⟩, _⟩, _⟩ := HK7.out w15 X715.out
                obtain ⟨⟨d0, d1, d2⟩, _⟩ := HKX.out w15 X1315.out
                go_upto_region 27 with (go_at_call 14; refine HS1.out.mono ?_; rintro e w16 ⟨rfl, x16⟩; have X1516 := hide x16; clear x16)
                clear c0 c1 c2 d0 d1 d2 HS1 HKX
                have X716 := hide (bt X715.out X1516.out (Nat.le_refl _))
                have HS2 : Hid (Calls Tryz.prog 14 #[.agg #[.string ⟨bsB.toArray⟩, .slice ua NB.length uc, .slice va OB.length vc], .agg #[.string ⟨bsB.toArray⟩, .slice xB NB.length xBc, .slice oB OB.length oBc]] w16 fun e w' => e = .returned (.bool true) ∧ Below w16.heap.size w16 w') := by
                  obtain ⟨_, k1, k2⟩ := HKY.out w16 X1516.out
                  have hA := (HK7.out w16 X716.out).2.2.1
                  exact same_any bsB ua va xB oB uc vc xBc oBc NB OB w16 HLB.out.1 HLB.out.2 k1 k2 hA.nx hA.ou
                obtain ⟨⟨_, ⟨c0, c1, c2⟩⟩, _⟩ := HK7.out w16 X716.out
                obtain ⟨⟨d0, d1, d2⟩, _⟩ := HKY.out w16 X1516.out
                go_upto_region 28 with (go_at_call 14; refine HS2.out.mono ?_; rintro e w17 ⟨rfl, x17⟩; have X1617 := hide x17; clear x17)
                clear c0 c1 c2 d0 d1 d2 HS2 HKY
                have X717 := hide (bt X716.out X1617.out (Nat.le_refl _))
                have X917 := hide (bt X915.out (bt X1516.out X1617.out (Nat.le_refl _)) (Nat.le_refl _))
                clear X716 X715 X1516 X1617 X1315 X913 X915 XR13 HLA HLB
                have HRA := hide ((HK7.out w17 X717.out).2.1.right xAc oAc)
                have HRC : Hid (∀ V, Below w17.heap.size w17 V → Calls Tryz.prog 16 #[.agg #[.string ⟨bs.toArray⟩, .slice xa NX.length xc, .slice oa OU.length oc]] V fun e w' => e = .returned (.bool true) ∧ Below V.heap.size V w') := fun V x => (HKC.out V (bt X917.out x (Nat.le_refl _))).2.at'.right xc oc
                obtain ⟨⟨⟨a0, a1, a2⟩, -⟩, -⟩ := HK7.out w17 X717.out
                go_upto_region 30 with (first
                  | (go_at_call 16; refine HRA.out.mono ?_; rintro e w18 ⟨rfl, x18⟩; have X18 := hide x18; clear x18 HRA a0 a1 a2; obtain ⟨⟨c0, c1, c2⟩, -⟩ := HKC.out w18 (bt X917.out X18.out (Nat.le_refl _)))
                  | (go_at_call 16; refine (HRC.out _ X18.out).mono ?_; rintro e w19 ⟨rfl, x19⟩; have X1719 := hide (bt X18.out x19 (Nat.le_refl _)); clear x19))
                clear c0 c1 c2 HRC X18
                have X719 := hide (bt X717.out X1719.out (Nat.le_refl _))
                have X919 := hide (bt X917.out X1719.out (Nat.le_refl _))
                have XW19 := hide (bt XW7.out X719.out (Nat.le_refl _))
                have HALL : Hid (∀ V, Below w19.heap.size w19 V → ((V.cell? ⟨pA, 0, none⟩ = some (.string ⟨bsA.toArray⟩) ∧ V.cell? ⟨pA, 1, none⟩ = some (.slice xA NA.length xAc) ∧ V.cell? ⟨pA, 2, none⟩ = some (.slice oA OA.length oAc)) ∧ (V.cell? ⟨pC, 0, none⟩ = some (.string ⟨bs.toArray⟩) ∧ V.cell? ⟨pC, 1, none⟩ = some (.slice xa NX.length xc) ∧ V.cell? ⟨pC, 2, none⟩ = some (.slice oa OU.length oc))) ∧ AtA V bsA xA oA NA OA ∧ JoR (dfA bsA NA OA) (dfA bsB NB OB) V bs xa oa NX OU g gc P ∧ PcAt V pa D1 ∧ PcAt V qa D2 ∧ SAt V ta TS) := fun V x => by
                  obtain ⟨⟨k1, _⟩, k2, _, k3, k4, k5⟩ := HK7.out V (bt X719.out x (Nat.le_refl _))
                  obtain ⟨k6, k7⟩ := HKC.out V (bt X919.out x (Nat.le_refl _))
                  exact ⟨⟨k1, k6⟩, k2, k7, k3, k4, k5⟩
                have HLA1 := hide HA1.out.lab
                have HLA2 := hide HA2.out.lab
                have HR1 := hide hR1
                have HR2 := hide hR2
                clear X717 X917 X1719 X719 X919 HK7 HKC HLN XS HJR HB9 X89 X79 XW9 X8 HA1 HA2 hR1 hR2 hn'
                go_wp2
                go_loopg [35] (TS.length + 1) (fun gg x wt => ∃ n : Nat, x = .int .i64 (n : Nat) ∧ n ≤ TS.length ∧ Hid (Below w19.heap.size w19 wt) ∧ TS.length - n < gg)
                case atStart => exact ⟨0, rfl, by omega, Below.refl _ _, by omega⟩
                case round =>
                  rename_i wt _
                  obtain ⟨n, rfl, hn1, XT, hg⟩ := hrel
                  have HG := hide hg
                  clear hg
                  by_cases hn : n < TS.length
                  · as_aux_lemma =>
                    have hn' : (n : Int) < (TS.length : Int) := by omega
                    have htl := HTS.out _ (List.getElem_mem hn)
                    obtain ⟨tb, toff, rfl, _⟩ := (HALL.out _ (Below.refl _ _)).2.2.2.2.2.get hn
                    have HTX : Hid (∀ V, Below w19.heap.size w19 V → V.cell? ⟨tb, toff + n, none⟩ = some (.string ⟨(TS[n]).toArray⟩)) := fun V x => by
                      obtain ⟨b, off, e, c⟩ := (HALL.out V x).2.2.2.2.2.get hn
                      simp only [Option.some.injEq, Addr.mk.injEq] at e
                      obtain ⟨rfl, rfl, _⟩ := e
                      exact c
                    generalize TS[n] = t at *
                    obtain ⟨b1, hb1⟩ : ∃ b1, Hid (b1 = mtF (D1.map PD.p) t (D1.map PD.p).length) := ⟨_, rfl⟩
                    obtain ⟨b2, hb2⟩ : ∃ b2, Hid (b2 = mtF (D2.map PD.p) t (D2.map PD.p).length) := ⟨_, rfl⟩
                    obtain ⟨la, hla⟩ : ∃ la, Hid (la = (dfA bsA NA OA).lab 0 (ntL t)) := ⟨_, rfl⟩
                    obtain ⟨lb, hlb⟩ : ∃ lb, Hid (lb = (dfA bsB NB OB).lab 0 (ntL t)) := ⟨_, rfl⟩
                    obtain ⟨i, hi1, hi2, hi3⟩ := (HALL.out _ (Below.refl _ _)).2.2.1.lab (ntL t) (ntL_txt t)
                    rw [← hla.out, ← hlb.out] at hi3
                    have HI1 := hide hi1
                    have HPR : Hid (∀ V, Below w19.heap.size w19 V → V.cell? ⟨g, i * 2, none⟩ = some (.int .i64 la) ∧ V.cell? ⟨g, i * 2 + 1, none⟩ = some (.int .i64 lb)) := fun V x => by
                      obtain ⟨b0, oq⟩ := (HALL.out V x).2.2.1.q
                      obtain ⟨s0, s1, _, _⟩ := OwnQ.cells oq (i := i) hi2
                      have e : P.getD i (0, 0) = (la, lb) := hi3
                      rw [e] at s0 s1
                      exact ⟨s0, s1⟩
                    have hla2 : la = if b1 then 1 else 0 := by rw [hla.out, hb1.out]; exact HLA1.out t
                    have hlb2 : lb = if b2 then 1 else 0 := by rw [hlb.out, hb2.out]; exact HLA2.out t
                    have HLA3 := hide hla2
                    have HLB3 := hide hlb2
                    have HMP : Hid (∀ V, Below w19.heap.size w19 V → Calls Tryz.prog 31 #[.slice pa D1.length pc, .string ⟨t.toArray⟩] V fun e w' => e = .returned (.tuple #[.bool b1, .int .i64 0]) ∧ Below V.heap.size V w') := fun V x => by
                      rw [hb1.out]; exact matchOk_any pa pc D1 t V htl HR1.out (HALL.out V x).2.2.2.1
                    have HMQ : Hid (∀ V, Below w19.heap.size w19 V → Calls Tryz.prog 31 #[.slice qa D2.length qc, .string ⟨t.toArray⟩] V fun e w' => e = .returned (.tuple #[.bool b2, .int .i64 0]) ∧ Below V.heap.size V w') := fun V x => by
                      rw [hb2.out]; exact matchOk_any qa qc D2 t V htl HR2.out (HALL.out V x).2.2.2.2.1
                    have HRC : Hid (∀ V, Below w19.heap.size w19 V → Calls Tryz.prog 27 #[.agg #[.string ⟨bs.toArray⟩, .slice xa NX.length xc, .slice oa OU.length oc], .string ⟨t.toArray⟩] V fun e w' => e = .returned (.tuple #[.int .i64 (i : Int), .int .i64 0]) ∧ Below V.heap.size V w') := fun V x => by
                      have := (HALL.out V x).2.2.1.at'.run xc oc t htl
                      rw [HI1.out] at this
                      exact this
                    have HRA : Hid (∀ V, Below w19.heap.size w19 V → Calls Tryz.prog 27 #[.agg #[.string ⟨bsA.toArray⟩, .slice xA NA.length xAc, .slice oA OA.length oAc], .string ⟨t.toArray⟩] V fun e w' => e = .returned (.tuple #[.int .i64 la, .int .i64 0]) ∧ Below V.heap.size V w') := fun V x => by
                      rw [hla.out]; exact (HALL.out V x).2.1.run xAc oAc t htl
                    have HBX : Hid (∀ V, Below w19.heap.size w19 V → (V.cell? ⟨pA, 0, none⟩ = some (.string ⟨bsA.toArray⟩) ∧ V.cell? ⟨pA, 1, none⟩ = some (.slice xA NA.length xAc) ∧ V.cell? ⟨pA, 2, none⟩ = some (.slice oA OA.length oAc)) ∧ (V.cell? ⟨pC, 0, none⟩ = some (.string ⟨bs.toArray⟩) ∧ V.cell? ⟨pC, 1, none⟩ = some (.slice xa NX.length xc) ∧ V.cell? ⟨pC, 2, none⟩ = some (.slice oa OU.length oc))) := fun V x => (HALL.out V x).1
                    have hi' : (i : Int) < (P.length : Int) := by omega
                    clear hla hlb hb1 hb2 hi1 hi3 hla2 hlb2 HALL HI1 HLA1 HLA2 HR1 HR2 HTS htl
                    have ct := HTX.out _ XT.out
                    go_upto_region 34 with (go_at_call 31; refine (HMP.out _ XT.out).mono ?_; rintro e w20 ⟨rfl, x20⟩; have X20 := hide (bt XT.out x20 (Nat.le_refl _)); clear x20)
                    clear ct
                    have ct := HTX.out _ X20.out
                    go_upto_region 35 with (go_at_call 31; refine (HMQ.out _ X20.out).mono ?_; rintro e w21 ⟨rfl, x21⟩; have X21 := hide (bt X20.out x21 (Nat.le_refl _)); clear x21)
                    clear ct HMP HMQ X20 XT
                    have HDr : Hid (Below w21.heap.size w21 w21.drew) := (Below.refl _ _).drew
                    refine wp_region_quiet (C := fun w' => Below w21.heap.size w21 w') (by kernel_rfl) (by kernel_rfl) HDr.out ?_
                    refine QW.out (l := _ :: _) ?_
                    iterate 5 (refine QW.take (by rfl) ?_; apply Exists.intro; refine ⟨fun w' hw' => ?_, ?_⟩; (· (obtain ⟨-, ⟨g0, g1, g2⟩⟩ := HBX.out w' (bt X21.out hw' (Nat.le_refl _)); have g3 := HTX.out w' (bt X21.out hw' (Nat.le_refl _)); go_simp; first | done | (first | done | rfl))); try simp only [Act.put, List.setIfInBounds_toArray, List.set_cons_zero, List.set_cons_succ])
                    iterate 1 (refine QW.take (by rfl) ?_; apply Exists.intro; refine ⟨fun w' hw' => ?_, ?_⟩; (· (obtain ⟨-, ⟨g0, g1, g2⟩⟩ := HBX.out w' (bt X21.out hw' (Nat.le_refl _)); have g3 := HTX.out w' (bt X21.out hw' (Nat.le_refl _)); go_simp; (refine (HRC.out _ (bt X21.out hw' (Nat.le_refl _))).mono ?_; rintro e w22 ⟨rfl, x⟩; exact ⟨rfl, hw'.trans (x.mono hw'.size)⟩))); try simp only [Act.put, List.setIfInBounds_toArray, List.set_cons_zero, List.set_cons_succ])
                    iterate 5 (refine QW.take (by rfl) ?_; apply Exists.intro; refine ⟨fun w' hw' => ?_, ?_⟩; (· (obtain ⟨-, ⟨g0, g1, g2⟩⟩ := HBX.out w' (bt X21.out hw' (Nat.le_refl _)); have g3 := HTX.out w' (bt X21.out hw' (Nat.le_refl _)); go_simp; first | done | (first | done | rfl))); try simp only [Act.put, List.setIfInBounds_toArray, List.set_cons_zero, List.set_cons_succ])
                    refine QW.nil ?_
                    intro w22 xw22
                    have X22 := hide (bt X21.out xw22 (Nat.le_refl _))
                    clear xw22 HDr HRC X21
                    go_upto_region 36 with fail
                    have HDr : Hid (Below w22.heap.size w22 w22.drew) := (Below.refl _ _).drew
                    refine wp_region_quiet (C := fun w' => Below w22.heap.size w22 w') (by kernel_rfl) (by kernel_rfl) HDr.out ?_
                    refine QW.out (l := _ :: _) ?_
                    iterate 5 (refine QW.take (by rfl) ?_; apply Exists.intro; refine ⟨fun w' hw' => ?_, ?_⟩; (· (obtain ⟨⟨g0, g1, g2⟩, -⟩ := HBX.out w' (bt X22.out hw' (Nat.le_refl _)); have g3 := HTX.out w' (bt X22.out hw' (Nat.le_refl _)); go_simp; first | done | (first | done | rfl))); try simp only [Act.put, List.setIfInBounds_toArray, List.set_cons_zero, List.set_cons_succ])
                    iterate 1 (refine QW.take (by rfl) ?_; apply Exists.intro; refine ⟨fun w' hw' => ?_, ?_⟩; (· (obtain ⟨⟨g0, g1, g2⟩, -⟩ := HBX.out w' (bt X22.out hw' (Nat.le_refl _)); have g3 := HTX.out w' (bt X22.out hw' (Nat.le_refl _)); go_simp; (refine (HRA.out _ (bt X22.out hw' (Nat.le_refl _))).mono ?_; rintro e w23 ⟨rfl, x⟩; exact ⟨rfl, hw'.trans (x.mono hw'.size)⟩))); try simp only [Act.put, List.setIfInBounds_toArray, List.set_cons_zero, List.set_cons_succ])
                    iterate 5 (refine QW.take (by rfl) ?_; apply Exists.intro; refine ⟨fun w' hw' => ?_, ?_⟩; (· (obtain ⟨⟨g0, g1, g2⟩, -⟩ := HBX.out w' (bt X22.out hw' (Nat.le_refl _)); have g3 := HTX.out w' (bt X22.out hw' (Nat.le_refl _)); go_simp; first | done | (first | done | rfl))); try simp only [Act.put, List.setIfInBounds_toArray, List.set_cons_zero, List.set_cons_succ])
                    refine QW.nil ?_
                    intro w23 xw23
                    have X23 := hide (bt X22.out xw23 (Nat.le_refl _))
                    clear xw23 HDr HRA X22
                    go_upto_region 37 with fail
                    obtain ⟨s0, s1⟩ := HPR.out _ X23.out
                    clear HPR HBX HTX
                    have e1 := HLA3.out
                    have e2 := HLB3.out
                    clear HLA3 HLB3
                    have q1 : (la == 1) = b1 := by rw [e1]; cases b1 <;> rfl
                    have q2 : (lb == 1) = b2 := by rw [e2]; cases b2 <;> rfl
                    have q3 : (la != la) = false := by simp
                    have q4 : (b1 != b1) = false := by simp
                    have q5 : (b2 != b2) = false := by simp
                    clear e1 e2
                    all_goals
                      go_wp2
                      go_roundg (TS.length - (n + 1) + 1)
                      case measure => have := HG.out; omega
                      case rel => exact ⟨n + 1, by first | rfl | go_num | (congr 1; omega), by omega, X23, by omega⟩
                  · as_aux_lemma =>
                    obtain rfl : n = TS.length := by omega
                    have hn' : ¬ (TS.length : Int) < (TS.length : Int) := by omega
                    have XV := hide (bt XW19.out XT.out (Nat.le_refl _))
                    go_wp2
                    go_ret
                    exact ⟨rfl, XV.out⟩
          · as_aux_lemma =>
            go_wp2
            go_ret
            exact ⟨rfl, XW9.out⟩
        · as_aux_lemma =>
          go_wp2
          go_ret
          exact ⟨rfl, XW7.out⟩
      · as_aux_lemma =>
        rcases HF2.out with ⟨rfl, _⟩ | rfl
        · go_wp2
          go_ret
          exact ⟨rfl, XW7.out⟩
        · go_wp2
          go_ret
          exact ⟨rfl, XW7.out⟩
    · as_aux_lemma =>
      go_wp2
      go_ret
      exact ⟨rfl, X3.out⟩
  · as_aux_lemma =>
    go_wp2
    go_ret
    exact ⟨rfl, X3.out⟩
end Go.Proofs.YtdgoilkgplnhfaaGreat
