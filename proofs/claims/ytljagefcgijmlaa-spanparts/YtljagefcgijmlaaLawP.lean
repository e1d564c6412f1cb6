/-
  SpanParts, walked: whatever it is given, it answers true; nothing that was there has turned. Condition: each list takes no more than a process can hold.
-/
import Derived.Test.YtljagefcgijmlaaPaS
import Derived.Test.YtljagefcgijmlaaMakes
namespace Go.Proofs.Ytljagefcgijmlaa
open Go.RowKit Go.Lib

theorem Try.info40 : (Try.prog.info? 40).map (fun i => (i.zero, i.size, i.bytes)) = some (some (.slice none 0 0), 1, 24) := by kernel_rfl
theorem told_one {S : List (List Spn)} {w w1 : World} {e : Ending} (h : ToldP S w e w1) : ∃ v P E, e = .returned (.tuple #[v, .int .i64 E]) ∧ OwnP w1 w.heap.size v P := by
  rcases h.2 with ⟨_, v, P, he, ho, _⟩ | ⟨_, he⟩
  · exact ⟨v, P, 0, he, ho⟩
  · exact ⟨_, [], 1, he, OwnP.nil _ _⟩

set_option maxRecDepth 100000 in
set_option maxHeartbeats 4000000 in
theorem spanParts_any (aL aM : Option Addr) (cL cM : Nat) (L M : List (List Spn)) (w : World) (hlL : L.length ≤ 140737488351232) (hlM : M.length ≤ 140737488351232) (heL : ∀ X ∈ L, X.length ≤ 140737488351232) (heM : ∀ X ∈ M, X.length ≤ 140737488351232) (hatL : SqAt w aL L) (hatM : SqAt w aM M) :
    Calls Try.prog 5 #[.slice aL L.length cL, .slice aM M.length cM] w fun e w' => e = .returned (.bool true) ∧ Below w.heap.size w w' := by
  have hw1 := weigh_tot aL cL L w hlL heL hatL
  obtain ⟨LL, hLL⟩ : ∃ LL : Nat → List (List Spn), LL = fun i => if i = 2 then M else L := ⟨_, rfl⟩
  obtain ⟨aa, haa⟩ : ∃ aa : Nat → Option Addr, aa = fun i => if i = 2 then aM else aL := ⟨_, rfl⟩
  obtain ⟨cc, hcc⟩ : ∃ cc : Nat → Nat, cc = fun i => if i = 2 then cM else cL := ⟨_, rfl⟩
  have hll : (L.length ≤ 2147483647 ∧ totL L ≤ 2147483647) → (M.length ≤ 2147483647 ∧ totL M ≤ 2147483647) → ∀ i, (LL i).length ≤ 2147483647 ∧ totL (LL i) ≤ 2147483647 := fun hs ht i => by rw [hLL]; simp only []; split <;> assumption
  have hsp : ∀ W, Below w.heap.size w W → ∀ i, SqAt W (aa i) (LL i) := fun W x i => by
    rw [hLL, haa]; simp only []; split
    · exact hatM.below x
    · exact hatL.below x
  have hce : ∀ W : World, ∀ i, i < 4 → (W.alloc (.cells #[.slice aL L.length cL, .slice aL L.length cL, .slice aM M.length cM, .slice aL L.length cL] 25)).cell? ⟨W.heap.size, i, none⟩ = some (.slice (aa i) (LL i).length (cc i)) := fun W i hi => by
    rw [hLL, haa, hcc]
    match i, hi with
    | 0, _ => simp
    | 1, _ => simp
    | 2, _ => simp
    | 3, _ => simp
  have HLL := hide hll
  have HSP := hide hsp
  have HCE := hide hce
  have HAM := hide hatM
  have HEM := hide heM
  obtain ⟨i22, hj, hy0, hy1, hy2⟩ : ∃ i, Try.prog.info? 22 = some i ∧ i.zero = some (.slice none 0 0) ∧ i.size = 1 ∧ i.bytes = 24 := info_parts Try.info22
  clear hll hsp hce hLL haa hcc hatL hatM heL heM
  go_enter Try.func5, Try.ntmps5
  go_wp2_with (first
    | (go_at_call 29; refine hw1.mono ?_; rintro e w0 ⟨⟨N, rfl, hN0, hN1⟩, x0⟩; have HN1 := hide hN1; have X0 := hide x0; have hw2 := weigh_tot aM cM M w0 hlM HEM.out (HAM.out.below X0.out); clear hw1 x0 hN1)
    | (go_at_call 29; refine hw2.mono ?_; rintro e w1 ⟨⟨N', rfl, hM0, hM1⟩, x1⟩; have HM1 := hide hM1; have X1 := hide (bt X0.out x1 (Nat.le_refl _)); have hadd := addsUp_any N N' hN0 hM0 w1; clear hw2 x1 hM1)
    | (go_at_call 8; refine hadd.mono ?_; rintro e w2 ⟨⟨T, rfl, hT0, hT1, hT2⟩, hw2⟩; subst hw2; clear hadd)
    | (go_at_call 9; refine (awake_any _).mono ?_; rintro e w3 ⟨rfl, x3⟩; have X3 := hide (bt X1.out x3 (Nat.le_refl _)); clear x3))
  · go_ret
    exact ⟨rfl, X1.out⟩
  have hS1 : (L.length ≤ 2147483647 ∧ totL L ≤ 2147483647) ∧ (M.length ≤ 2147483647 ∧ totL M ≤ 2147483647) := by
    have : T = N + N' := hT2 (by omega)
    exact ⟨HN1.out (by omega), HM1.out (by omega)⟩
  have HLL1 := hide (HLL.out hS1.1 hS1.2)
  have HC1 := hide (HCE.out w3)
  have HX := hide (al X3.out (.cells #[.slice aL L.length cL, .slice aL L.length cL, .slice aM M.length cM, .slice aL L.length cL] 25))
  have HAB : Hid (w3.heap.size < (w3.alloc (.cells #[.slice aL L.length cL, .slice aL L.length cL, .slice aM M.length cM, .slice aL L.length cL] 25)).heap.size) := by unfold Hid; simp
  generalize w3.alloc (.cells #[.slice aL L.length cL, .slice aL L.length cL, .slice aM M.length cM, .slice aL L.length cL] 25) = W1 at *
  generalize w3.heap.size = ab at *
  have HSP1 := hide (HSP.out W1 HX.out)
  clear HSP HCE X3 X1 X0 HLL hS1 HN1 HM1 HAM HEM hT2
  obtain ⟨i40, hz0, hz1, hz2, hz3⟩ : ∃ i, Try.prog.info? 40 = some i ∧ i.zero = some (.slice none 0 0) ∧ i.size = 1 ∧ i.bytes = 24 := info_parts Try.info40
  go_loopw [7, 8, 9] (fun o wv x wr => ∃ i : Nat, i ≤ 4 ∧ x = .int .i64 i ∧ ∃ D E, Hid (D.length = i) ∧ Hid (E.length = i) ∧ Hid (PaS W1 o wv D E wr)) (fun _ _ x _ => 4 - (RowKit.intOf x).toNat)
  case atStart => exact ⟨0, by omega, rfl, [], [], rfl, rfl, PaS.nil _⟩
  case round =>
    obtain ⟨i, hi4, rfl, D, E, HDL, HEL, S1⟩ := hrel
    rename World => wR
    by_cases hlt : i < 4
    · have hlt' : (i : Int) < 4 := by omega
      have hx1 : Below W1.heap.size W1 wR := S1.out.below
      have HAT := hide ((HSP1.out i).below hx1)
      have c0 := (hx1.cell (p := ⟨ab, i, none⟩) HAB.out).trans (HC1.out i hlt)
      have hab : ab < wR.heap.size := Nat.lt_of_lt_of_le HAB.out hx1.size
      have HK := hide (HLL1.out i)
      generalize LL i = K at *
      generalize aa i = ai at *
      generalize cc i = ci at *
      have hk := HK.out.1
      have HWr : Hid (W1.heap.size ≤ wR.heap.size) := hx1.size
      clear hx1
      go_wp2
      go_loopw [10, 11, 12] (fun hv iv x wr => ∃ k : Nat, k ≤ K.length ∧ x = .int .i64 k ∧ ∃ g, Hid (LnS wR K g k k hv iv wr)) (fun _ _ x _ => K.length - (RowKit.intOf x).toNat)
      case atStart => exact ⟨0, Nat.zero_le _, rfl, fun _ => 0, LnS.nil _ _ _⟩
      case round =>
        obtain ⟨k, hkK, rfl, g, L1⟩ := hrel
        rename World => wr
        have x1 : Below wR.heap.size wR wr := L1.out.below
        have c1 := (x1.cell (p := ⟨ab, i, none⟩) hab).trans c0
        by_cases hk2 : k < K.length
        · have hk2' : (k : Int) < (K.length : Int) := by omega
          rcases HAT.out with h | ⟨b, off, rfl, hb, hc⟩
          · rw [h] at hk2; simp at hk2
          obtain ⟨aj, cj, q1, q2⟩ := hc k hk2
          have q3 := (x1.cell (p := ⟨b, off + k, none⟩) hb).trans q1
          have HQ1 := hide q1
          have HQ2 := hide (q2.below x1)
          have hlk : (K.getD k []).length ≤ 2147483647 := Nat.le_trans (len_totL hk2) HK.out.2
          have hlen := lent_any aj cj (K.getD k []) wr (by omega) HQ2.out
          have HC0 := hide c0
          clear hc q1 q2 x1 c0 HQ2
          obtain ⟨Y, HYd⟩ : ∃ Y, Hid (Y = K.getD k []) := ⟨_, rfl⟩
          rw [← HYd.out] at q3 hlk hlen HQ1
          have iY : (Y.length : Int) ≤ (Y.length : Int) + 4 := by omega
          obtain ⟨g', HG, HG'⟩ : ∃ g' : Nat → Nat, Hid (∀ j, j < k → g' j = g j) ∧ Hid (g' k = wr.heap.size) := ⟨fun j => if j = k then wr.heap.size else g j, fun j hj => if_neg (by omega), if_pos rfl⟩
          have HV : Hid (lv K g' k = .slice (some ⟨wr.heap.size, 0, none⟩) (Y.length + 4) (Y.length + 4)) := by unfold Hid lv; rw [HG'.out, ← HYd.out]
          have HI : Hid (iv K g' k = .slice (some ⟨wr.heap.size, 0, none⟩) Y.length (Y.length + 4)) := by unfold Hid iv; rw [HG'.out, ← HYd.out]
          have HNE : Hid (∀ j, j < k → g' j ≠ g' k) := fun j hj => by rw [HG.out j hj, HG'.out]; have := (L1.out.lt hj).2; omega
          have HWW : Hid (wR.heap.size ≤ wr.heap.size) := L1.out.below.size
          go_wp2_with (first
            | (go_at_call 10; refine hlen.mono ?_; rintro e w2 ⟨rfl, o2, x2⟩; have S2 := hide (((L1.out.next x2).congr (Nat.le_refl _) HG.out).next (al (Below.refl _ w2) (.cells #[.slice (some ⟨wr.heap.size, 0, none⟩) (Y.length + 4) (Y.length + 4)] 22))); have P2 : Hid (OwnS (w2.alloc (.cells #[.slice (some ⟨wr.heap.size, 0, none⟩) (Y.length + 4) (Y.length + 4)] 22)) wR.heap.size (lv K g' k) (lentL (K.getD k []))) := (by unfold Hid; rw [HV.out, ← HYd.out]; exact own_mono (own_below o2 (al (Below.refl _ w2) _)) HWW.out); have HN2 := hide (one_cell 22 w2 (.slice (some ⟨wr.heap.size, 0, none⟩) (Y.length + 4) (Y.length + 4))); clear o2 x2 hlen c1 q3)
            | (at_builtin; refine wpList_append_view rfl (.tmp 59) (.tmp 61) 25 rfl wR.heap.size 22 i22 (.slice none 0 0) 1 24 Try.underlying25 hj hy0 hy1 hy2 rfl (by decide) _ k ((List.range k).map (lv K g')) rfl S2.out.hrow ⟨w2.heap.size, 0, none⟩ 1 1 [.slice (some ⟨wr.heap.size, 0, none⟩) (Y.length + 4) (Y.length + 4)] rfl rfl HN2.out (by simp [Value.oneCell']) (by decide) (by unfold maxLen; omega) (by omega) S2.out.below.size ?_; intro v3 w3 h1 h2; have S3 := hide (S2.out.pushH P2.out HNE.out (by rw [HV.out]; exact h1) h2); have c3 := (S3.out.below.cell (p := ⟨ab, i, none⟩) hab).trans HC0.out; have q3 := (S3.out.below.cell (p := ⟨b, off + k, none⟩) hb).trans HQ1.out; have S4 := hide (S3.out.next (al (Below.refl _ w3) (.cells #[.slice (some ⟨wr.heap.size, 0, none⟩) Y.length (Y.length + 4)] 22))); have HN4 := hide (one_cell 22 w3 (.slice (some ⟨wr.heap.size, 0, none⟩) Y.length (Y.length + 4))); clear h1 h2)
            | (at_builtin; refine wpList_append_view rfl (.tmp 63) (.tmp 74) 25 rfl wR.heap.size 22 i22 (.slice none 0 0) 1 24 Try.underlying25 hj hy0 hy1 hy2 rfl (by decide) _ k ((List.range k).map (iv K g')) rfl S4.out.irow ⟨w3.heap.size, 0, none⟩ 1 1 [.slice (some ⟨wr.heap.size, 0, none⟩) Y.length (Y.length + 4)] rfl rfl HN4.out (by simp [Value.oneCell']) (by decide) (by unfold maxLen; omega) (by omega) S4.out.below.size ?_; intro v5 w5 h1 h2; have S5 := hide (S4.out.pushI (by rw [HI.out]; exact h1) h2); clear h1 h2 c3 q3))
          go_roundw
          case rel => exact ⟨k + 1, by omega, by go_num, g', S5.out⟩
          case measure => simp [RowKit.intOf]; omega
        · have hk3 : k = K.length := by omega
          subst hk3
          obtain ⟨ah, ch, rfl, _, hph⟩ := own_cap L1.out.hrow
          obtain ⟨aI, cI, rfl, hcI, hpi⟩ := own_cap L1.out.irow
          have hpa := parts_any aI cI K wr (L1.out.ssAt rfl) (fun X hX => by obtain ⟨j, hj, rfl⟩ := List.getElem_of_mem hX; have := len_totL hj; have := HK.out.2; simp [List.getD_eq_getElem?_getD, hj] at *; omega) hcI (by omega)
          have X1 := hide x1
          have HPH := hide hph
          have HPI := hide hpi
          have HC0 := hide c0
          clear x1 hcI hph hpi c0
          go_wp2_with (go_at_call 30; refine hpa.mono ?_; rintro e wP h; obtain ⟨v6, P6, E6, rfl, o6⟩ := told_one h; obtain ⟨a6, c6, rfl, _⟩ := o6.at'; have T1 := hide h; clear hpa c1 h o6)
          go_loopw [16] (fun x wr2 => ∃ m : Nat, m ≤ K.length ∧ x = .int .i64 m ∧ Hid (Kept (fun b => ∃ j, j < m ∧ b = g j) wP wr2)) (fun x _ => K.length - (RowKit.intOf x).toNat)
          case atStart => exact ⟨0, Nat.zero_le _, rfl, Kept.refl _ _⟩
          case round =>
            obtain ⟨m, hm, rfl, KP⟩ := hrel
            rename World => wq
            obtain ⟨B1, B2, B3, B4⟩ := L1.out.back T1.out.1 KP.out hm
            by_cases hm2 : m < K.length
            · have hm2' : (m : Int) < (K.length : Int) := by omega
              rcases HAT.out with h | ⟨b, off, rfl, hb, hc⟩
              · rw [h] at hm2; simp at hm2
              obtain ⟨aj, cj, q1, q2⟩ := hc m hm2
              have c2 := (B1.cell (p := ⟨ab, i, none⟩) hab).trans HC0.out
              have q3 := (B1.cell (p := ⟨b, off + m, none⟩) hb).trans q1
              obtain ⟨bh, rfl, _, hbh⟩ := HPH.out (by omega)
              obtain ⟨bi, rfl, _, hbi⟩ := HPI.out (by omega)
              have p3 : wq.cell? ⟨bh, m, none⟩ = some (lv K g m) := row_cell B2 rfl hm2
              have hlk : (K.getD m []).length ≤ 2147483647 := Nat.le_trans (len_totL hm2) HK.out.2
              have hwh : ∀ W, Below wq.heap.size wq W → Calls Try.prog 15 #[.slice (some ⟨g m, 0, none⟩) ((K.getD m []).length + 4) ((K.getD m []).length + 4), .slice aj (K.getD m []).length cj] W fun e w' => e = .returned (.bool true) ∧ Kept (fun b => ∃ j, j < m + 1 ∧ b = g j) wP w' := fun W x =>
                (whole_any aj (g m) cj wR.heap.size (K.getD m []) W (by omega) (q2.below (bt B1 x (Nat.le_refl _))) (own_below (B4 m (Nat.le_refl _) hm2) x)).mono fun e w' ⟨h1, h2⟩ =>
                  ⟨h1, (KP.out.mono (fun b ⟨j, hj, e⟩ => ⟨j, by omega, e⟩)).trans ((Kept.of_below x).trans (h2.mono (fun b e => ⟨m, by omega, e⟩)))⟩
              have nxt : ∀ w', Kept (fun b => ∃ j, j < m + 1 ∧ b = g j) wP w' → w'.cell? ⟨ab, i, none⟩ = some (.slice (some ⟨b, off, none⟩) K.length ci) ∧ w'.cell? ⟨b, off + m, none⟩ = some (.slice aj (K.getD m []).length cj) ∧ w'.cell? ⟨bi, m, none⟩ = some (.slice (some ⟨g m, 0, none⟩) (K.getD m []).length ((K.getD m []).length + 4)) ∧ w'.cell? ⟨bh, m, none⟩ = some (.slice (some ⟨g m, 0, none⟩) ((K.getD m []).length + 4) ((K.getD m []).length + 4)) := fun w' k => by
                obtain ⟨C1, C2, C3, _⟩ := L1.out.back T1.out.1 k (by omega)
                exact ⟨(C1.cell (p := ⟨ab, i, none⟩) hab).trans HC0.out, (C1.cell (p := ⟨b, off + m, none⟩) hb).trans q1, row_cell C3 rfl hm2, row_cell C2 rfl hm2⟩
              have NX := hide nxt
              have HW := hide hwh
              unfold lv at p3
              clear hc q1 q2 B1 B2 B3 B4 nxt hwh hbh hbi
              obtain ⟨Y, HYd⟩ : ∃ Y, Hid (Y = K.getD m []) := ⟨_, rfl⟩
              rw [← HYd.out] at q3 hlk p3 NX HW
              go_wp2
              go_region_held3 (fun w' => w'.cell? ⟨bh, m, none⟩ = some (.slice (some ⟨g m, 0, none⟩) (Y.length + 4) (Y.length + 4)) ∧ w'.cell? ⟨ab, i, none⟩ = some (.slice (some ⟨b, off, none⟩) K.length ci) ∧ w'.cell? ⟨b, off + m, none⟩ = some (.slice aj Y.length cj)) (first | assumption | (simp [go_sem, *]; done))
                (first | (go_at_call 15; refine (HW.out _ (Below.refl _ _).drew).mono ?_; rintro e w7 ⟨rfl, k7⟩; have K7 := hide k7; obtain ⟨n1, n2, n3, n4⟩ := NX.out _ k7; clear k7))
              clear c2 q3 p3
              go_wp2
              go_quiet (fail)
              go_wp2
              go_roundw
              case rel => exact ⟨m + 1, by omega, by go_num, K7.out.trans (Kept.of_below (below_drewN _ _ _))⟩
              case measure => simp [RowKit.intOf]; omega
            · have hm3 : m = K.length := by omega
              subst hm3
              have HB1 := hide B1
              have cQ := (B1.cell (p := ⟨ab, i, none⟩) hab).trans HC0.out
              have hrp := refParts_any ai ci K wq HK.out.1 (Nat.le_trans HK.out.2 (by omega)) (HAT.out.below B1)
              clear B1 B2 B3 B4
              have HRr : Hid (wR.heap.size ≤ wr.heap.size) := L1.out.below.size
              go_wp2_with (first
                | (go_at_call 31; refine hrp.mono ?_; rintro e w8 h; have x8 := h.1; obtain ⟨v1, v2, P1, P2, E1, e1, e2, o1, o2, hbare, hsz⟩ := told_both (by omega) T1.out h; injection e1 with e1; injection e1 with e1; simp only [Array.mk.injEq, List.cons.injEq, Value.int.injEq, true_and, and_true] at e1; obtain ⟨rfl, rfl⟩ := e1; subst e2; obtain ⟨a7, c7, rfl, _⟩ := o2.at'; have X8 := hide (bt HB1.out x8 (Nat.le_refl _)); have Q1 := hide (((L1.out.ownP KP.out (Nat.le_refl _) o1).below x8)); have Q2 := hide (o2.mono (Nat.le_trans HWr.out HB1.out.size)); have HBR := hide hbare; have HSZ := hide hsz; have S8 := hide ((S1.out.next X8.out).next (al (Below.refl _ w8) (.cells #[.slice a6 P6.length c6] 40))); have HN8 := hide (one_cell 40 w8 (.slice a6 P6.length c6)); have HAL : Hid (∀ d ∈ D, Alien d.P P1) := (fun d hd => alien_new (S1.out.oeach d hd) Q1.out HRr.out); have Q1a := hide ((Q1.out.below (al (Below.refl _ w8) (.cells #[.slice a6 P6.length c6] 40))).mono (Nat.le_trans HWr.out HRr.out)); clear x8 o1 o2 hbare hsz hrp cQ h)
                | (at_builtin; refine wpList_append_view rfl (.tmp 128) (.tmp 130) 39 rfl W1.heap.size 40 i40 (.slice none 0 0) 1 24 Try.underlying39 hz0 hz1 hz2 hz3 rfl (by decide) _ D.length (D.map PD.v) rfl S8.out.orow ⟨w8.heap.size, 0, none⟩ 1 1 [.slice a6 P6.length c6] rfl rfl HN8.out (by simp [Value.oneCell']) (by decide) (by have := HDL.out; unfold maxLen; omega) (by have := HDL.out; omega) S8.out.below.size ?_; intro v9 w9 h1 h2; have S9 := hide (S8.out.pushO ⟨.slice a6 P6.length c6, P1⟩ Q1a.out HSZ.out HAL.out (by rw [HDL.out, HEL.out]; exact Nat.le_refl _) h1 h2); have Q2b := hide (ownP_app (Q2.out.below (al (Below.refl _ w8) (.cells #[.slice a6 P6.length c6] 40))) S8.out.orow h2); have S10 := hide (S9.out.next (al (Below.refl _ w9) (.cells #[.slice a7 P2.length c7] 40))); have Q2c := hide (Q2b.out.below (al (Below.refl _ w9) (.cells #[.slice a7 P2.length c7] 40))); have HN10 := hide (one_cell 40 w9 (.slice a7 P2.length c7)); clear h1 h2)
                | (at_builtin; refine wpList_append_view rfl (.tmp 132) (.tmp 134) 39 rfl W1.heap.size 40 i40 (.slice none 0 0) 1 24 Try.underlying39 hz0 hz1 hz2 hz3 rfl (by decide) _ E.length (E.map PD.v) rfl S10.out.wrow ⟨w9.heap.size, 0, none⟩ 1 1 [.slice a7 P2.length c7] rfl rfl HN10.out (by simp [Value.oneCell']) (by decide) (by have := HEL.out; unfold maxLen; omega) (by have := HEL.out; omega) S10.out.below.size ?_; intro v11 w11 h1 h2; have S11 := hide (S10.out.pushE ⟨.slice a7 P2.length c7, P2⟩ Q2c.out (by rw [List.length_append, HDL.out, HEL.out]; simp) (by simp only [HEL.out, ← HDL.out, List.getElem_append_right (Nat.le_refl _), Nat.sub_self, List.getElem_cons_zero]; exact HBR.out) h1 h2); clear h1 h2))
              go_roundw
              case rel => exact ⟨i + 1, by omega, by go_num, _, _, by unfold Hid; rw [List.length_append, HDL.out]; rfl, by unfold Hid; rw [List.length_append, HEL.out]; rfl, S11⟩
              case measure => simp [RowKit.intOf]; omega
    · have HI4 : Hid (i = 4) := show i = 4 by omega
      have hlt' : ¬ (i : Int) < 4 := by omega
      obtain ⟨ao, co, rfl, _, hpo⟩ := own_cap S1.out.orow
      obtain ⟨ae, ce, rfl, _, hpe⟩ := own_cap S1.out.wrow
      obtain ⟨bo, rfl, _, _⟩ := hpo (by have := HDL.out; have := HI4.out; omega)
      obtain ⟨be, rfl, _, _⟩ := hpe (by have := HEL.out; have := HI4.out; omega)
      rw [HDL.out, HEL.out] at S1 ⊢
      have hi5 : i ≤ 4 := hi4
      clear hpo hpe
      go_wp2
      go_loopw [20] (fun x wr => ∃ m : Nat, m ≤ i ∧ x = .int .i64 m ∧ Hid (PaS W1 (.slice (some ⟨bo, 0, none⟩) i co) (.slice (some ⟨be, 0, none⟩) i ce) D E wr)) (fun x _ => i - (RowKit.intOf x).toNat)
      case atStart => exact ⟨0, Nat.zero_le _, rfl, S1⟩
      case round =>
        obtain ⟨m, hm, rfl, S2⟩ := hrel
        rename World => wr
        by_cases hm2 : m < i
        · have hm2' : (m : Int) < (i : Int) := by omega
          have hmD : m < D.length := by rw [HDL.out]; exact hm2
          have hmE : m < E.length := by rw [HEL.out]; exact hm2
          obtain ⟨a1, k1, e1, p1⟩ := (S2.out.oeach _ (List.getElem_mem hmD)).at'
          obtain ⟨a2, k2, e2, p2⟩ := (S2.out.weach _ (List.getElem_mem hmE)).at'
          have s1 := S2.out.same m hmD hmE
          have sm := S2.out.small _ (List.getElem_mem hmD)
          have cO := cellPD S2.out.orow (by rw [HDL.out]) hmD rfl
          have cE := cellPD S2.out.wrow (by rw [HEL.out]) hmE rfl
          have l1 : (bare (D[m]).P).length = (D[m]).P.length := by simp [bare]
          have l2 : (bare (E[m]).P).length = (E[m]).P.length := by simp [bare]
          have hI : ∀ q ∈ bare (D[m]).P, q.2.length ≤ 140737488351232 := fun q hq => by
            obtain ⟨p, hp, rfl⟩ := List.mem_map.1 hq
            exact Nat.le_trans (sm.2 p hp) (by decide)
          rw [e1, ← l1] at cO
          rw [e2, ← l2, ← s1] at cE
          rw [← s1] at p2
          have hl : (bare (D[m]).P).length ≤ 140737488351232 := by rw [l1]; exact Nat.le_trans sm.1 (by decide)
          have hpt : ∀ W, Below wr.heap.size wr W → _ := fun W x => parted_any a1 a2 k1 k2 (bare (D[m]).P) W hl hI (p1.below x) (p2.below x)
          generalize bare (D[m]).P = Z at *
          have HP := hide hpt
          clear e1 e2 p1 p2 s1 sm l1 l2 hI hl hpt hmD hmE
          go_wp2
          go_region_held3 (fun w' => w'.cell? ⟨bo, m, none⟩ = some (.slice a1 Z.length k1) ∧ w'.cell? ⟨be, m, none⟩ = some (.slice a2 Z.length k2)) (first | assumption | (simp [go_sem, *]; done))
            (first | (go_at_call 32; refine (HP.out _ (Below.refl _ _).drew).mono ?_; rintro e w7 ⟨rfl, x7⟩; have y7 : Below wr.heap.size wr w7 := ((Below.refl _ _).drew.trans x7); have X7 := hide y7; have S7 := hide (S2.out.next y7); have n1 := (y7.cell (p := ⟨bo, m, none⟩) (World.ownsRow.lt S2.out.orow bo rfl).2).trans cO; have n2 := (y7.cell (p := ⟨be, m, none⟩) (World.ownsRow.lt S2.out.wrow be rfl).2).trans cE; clear x7 y7))
          clear cO cE
          go_wp2
          go_roundw
          case rel => exact ⟨m + 1, by omega, by go_num, S7⟩
          case measure => simp [RowKit.intOf]; omega
        · have hm3 : ¬ (m : Int) < (i : Int) := by omega
          go_wp2
          go_loopw [22] (fun x wr => ∃ m : Nat, m ≤ i ∧ x = .int .i64 m ∧ Hid (OwS W1 (.slice (some ⟨bo, 0, none⟩) i co) D m wr)) (fun x _ => i - (RowKit.intOf x).toNat)
          case atStart => exact ⟨0, Nat.zero_le _, rfl, S2.out.own⟩
          case round =>
            obtain ⟨m, hm, rfl, S3⟩ := hrel
            rename World => wq
            by_cases hm2 : m < i
            · have hm2' : (m : Int) < (i : Int) := by omega
              have hmD : m < D.length := by rw [HDL.out]; exact hm2
              have hp := S3.out.each m hmD (Nat.le_refl _)
              have sm := S3.out.small _ (List.getElem_mem hmD)
              have cO := cellPD S3.out.orow (by rw [HDL.out]) hmD rfl
              have hcall : ∀ W, Below wq.heap.size wq W → Calls Try.prog 33 #[(D[m]).v] W fun e w' => e = .returned (.bool true) ∧ Kept (FutL (LsP (D[m]).P) 0) wq w' := fun W x => by
                have hpW := hp.below x
                rcases hp.row.2 with ⟨hv, hn⟩ | ⟨gb, cap, cur, hv, _⟩
                · rw [hv]
                  exact (ownedP_nil W).mono fun e w' ⟨h1, h2⟩ => ⟨h1, by rw [h2]; exact Kept.of_below x⟩
                · rw [hv] at hpW ⊢
                  exact (ownedP_any W W1.heap.size gb cap _ hpW (Nat.le_trans S3.out.below.size x.size) sm.1 sm.2).mono fun e w' ⟨h1, h2⟩ => ⟨h1, (Kept.of_below x).trans h2⟩
              obtain ⟨a1, k1, e1, _⟩ := hp.at'
              have HST := hide (fun w' (hk : Kept (FutL (LsP (D[m]).P) 0) wq w') => S3.out.step hmD hk)
              have HCL := hide hcall
              rw [e1] at cO HCL
              clear hp sm hcall e1
              go_wp2_with (first
                | (go_at_call 33; refine (HCL.out _ (Below.refl _ _)).mono ?_; rintro e w7 ⟨rfl, k7⟩; have S7 := hide (HST.out _ k7); clear k7))
              go_roundw
              case rel => exact ⟨m + 1, by omega, by go_num, S7⟩
              case measure => simp [RowKit.intOf]; omega
            · have hm3 : ¬ (m : Int) < (i : Int) := by omega
              have HF := hide (HX.out.trans (S3.out.below.mono HX.out.size))
              go_wp2
              go_ret
              exact ⟨rfl, HF.out⟩
end Go.Proofs.Ytljagefcgijmlaa
