/-
  GlobParts, walked: whatever it is given, it answers true; nothing that was there has turned. Condition: the patterns have at most 2^32 bytes.
-/
import Derived.Test.YtaiijdnfimclbaaPta
namespace Go.Proofs.Ytaiijdnfimclbaa
open Go.RowKit Go.Lib

set_option maxRecDepth 100000 in
set_option maxHeartbeats 8000000 in
theorem globParts_any (a b s : By) (w : World) (ha : a.length ≤ 4294967296) (hb : b.length ≤ 4294967296) (hs : s.length ≤ 140737488351232) :
    Calls Try.prog 7 #[.string ⟨a.toArray⟩, .string ⟨b.toArray⟩, .string ⟨s.toArray⟩] w fun e w' => e = .returned (.bool true) ∧ Below w.heap.size w w' := by
  go_enter Try.func7, Try.ntmps7
  go_wp2_with (fail)
  refine (known_any w).mono ?_
  rintro e w1 ⟨rfl, x1⟩
  have X1 := hide x1
  clear x1
  go_wp2_with (fail)
  refine (parse_any a w1 ha).mono ?_
  rintro e w2 ⟨h2, x2⟩
  have X2 := hide (bt X1.out x2 (Nat.le_refl _))
  cases hp1 : parL a with
  | error t1 =>
    obtain ⟨rfl, _⟩ := h2.err hp1
    clear h2 x2 hp1
    go_wp2_with (fail)
    refine (parse_any b w2 hb).mono ?_
    rintro e w3 ⟨h3, x3⟩
    have X3 := hide (bt X2.out x3 (Nat.le_refl _))
    clear x3
    cases hp2 : parL b with
    | error t2 =>
      obtain ⟨rfl, _⟩ := h3.err hp2
      clear h3 hp2
      go_wp2
      go_ret
      exact ⟨rfl, X3.out⟩
    | ok L2 =>
      obtain ⟨v2, D2, rfl, o2, _⟩ := h3.ok hp2
      obtain ⟨a2, c2, rfl, _⟩ := o2.at
      clear h3 hp2 o2
      go_wp2
      go_ret
      exact ⟨rfl, X3.out⟩
  | ok L1 =>
    obtain ⟨v1, D1, rfl, o1, hD1⟩ := h2.ok hp1
    obtain ⟨a1, c1, rfl, _, at1⟩ := o1.at
    have R1 := hide (parL_right hp1)
    clear h2 hp1 o1 x2
    go_wp2_with (fail)
    refine (parse_any b w2 hb).mono ?_
    rintro e w3 ⟨h3, x3⟩
    have X3 := hide (bt X2.out x3 (Nat.le_refl _))
    have AT1 := hide (at1.below x3)
    clear at1 x3
    cases hp2 : parL b with
    | error t2 =>
      obtain ⟨rfl, _⟩ := h3.err hp2
      clear h3 hp2
      go_wp2
      go_ret
      exact ⟨rfl, X3.out⟩
    | ok L2 =>
      obtain ⟨v2, D2, rfl, o2, hD2⟩ := h3.ok hp2
      obtain ⟨a2, c2, rfl, _, at2⟩ := o2.at
      have R2 := hide (parL_right hp2)
      have AT2 := hide at2
      obtain ⟨i44, hj, hy0, hy1, hy2⟩ := info_parts Try.info44
      subst hD1 hD2
      have hl1 : D1.length ≤ 64 := by simpa using R1.out.1
      have hl2 : D2.length ≤ 64 := by simpa using R2.out.1
      have HM1 := hide (fun s' W (hs' : s'.length ≤ 140737488351232) (x : Below w3.heap.size w3 W) => matchOk_any a1 c1 D1 s' W hs' R1.out (AT1.out.below x))
      have HM2 := hide (fun s' W (hs' : s'.length ≤ 140737488351232) (x : Below w3.heap.size w3 W) => matchOk_any a2 c2 D2 s' W hs' R2.out (AT2.out.below x))
      have O0 := hide (World.ownsRow_nil w3 w3.heap.size 44 4)
      clear h3 hp2 o2 at2
      go_wp2_with (first
        | (at_builtin; refine wpList_append_free rfl (.tmp 49) (.tmp 50) 29 rfl w3.heap.size 44 i44 (.agg #[.int .i64 0, .int .i64 0, .bool false, .slice none 0 0]) 4 48 Try.underlying29 hj hy0 hy1 hy2 rfl (by decide) _ (0 + D1.length) ([] ++ pdCells D1) rfl O4.out a2 D2.length c2 (pdCells D2) rfl (pdCells_length D2) (fun ad hd => by subst hd; exact (AT2.out.below X4.out).cells) (fun h => (AT2.out.below X4.out).some h) (pdCells_one D2) (by unfold maxLen; omega) (by omega) X4.out.size ?_; intro v5 w5 r5 x5; have O5 := hide r5; have X5 := hide (X4.out.trans x5); clear r5 x5)
        | (at_builtin; refine wpList_append_free rfl (.tmp 47) (.tmp 48) 29 rfl w3.heap.size 44 i44 (.agg #[.int .i64 0, .int .i64 0, .bool false, .slice none 0 0]) 4 48 Try.underlying29 hj hy0 hy1 hy2 rfl (by decide) _ 0 [] rfl O0.out a1 D1.length c1 (pdCells D1) rfl (pdCells_length D1) (fun ad hd => by subst hd; exact AT1.out.cells) (fun h => AT1.out.some h) (pdCells_one D1) (by unfold maxLen; omega) (by omega) (Nat.le_refl _) ?_; intro v4 w4 r4 x4; have O4 := hide r4; have X4 := hide x4; clear r4 x4)
        | fail)
      have o5 : w5.ownsRow w3.heap.size 44 4 v5 (D1 ++ D2).length (pdCells (D1 ++ D2)) := by
        have := O5.out
        rwa [List.nil_append, ← pdCells_append, Nat.zero_add, ← List.length_append] at this
      obtain ⟨a5, c5, rfl, at5⟩ := PcAt.of_row o5 (fun d hd => by
        rcases List.mem_append.1 hd with hd | hd
        · exact (AT1.out.below X5.out).sets d hd
        · exact (AT2.out.below X5.out).sets d hd)
      have HM := hide (match_any a5 c5 (D1 ++ D2) s w5 hs (fun d hd => by
        rcases List.mem_append.1 hd with hd | hd
        · have := right_set_len R1.out d.p (List.mem_map.2 ⟨d, hd, rfl⟩); omega
        · have := right_set_len R2.out d.p (List.mem_map.2 ⟨d, hd, rfl⟩); omega) at5)
      rw [List.map_append] at HM
      have HLN : Hid ((D1 ++ D2).length = D1.length + D2.length) := List.length_append
      rw [HLN.out] at HM ⊢
      clear o5 at5 O4 O5 O0
      go_wp2_with (fail)
      refine HM.out.mono ?_
      rintro e w6 ⟨h6, x6⟩
      have X6 := hide (bt X5.out x6 (Nat.le_refl _))
      have XW := hide (fun W (x : Below w3.heap.size w3 W) => bt X3.out x (Nat.le_refl _))
      clear x6 HM
      rcases h6 with ⟨hr6, rfl⟩ | ⟨hr6, rfl⟩
      · have HCT := hide (match_cat (D1.map PD.p) (D2.map PD.p) s)
        obtain ⟨all, hall⟩ : ∃ all, Hid (all = mtF (D1.map PD.p ++ D2.map PD.p) s (D1.map PD.p ++ D2.map PD.p).length) := ⟨_, rfl⟩
        rw [← hall.out] at HCT ⊢
        clear hr6
        go_wp2
        go_loopw [17, 18] (fun so x wr => ∃ k : Nat, k ≤ s.length + 1 ∧ x = .int .i64 k ∧ so = .bool (cutsB (D1.map PD.p) (D2.map PD.p) s k) ∧ Hid (Below w3.heap.size w3 wr)) (fun _ x _ => s.length + 1 - (RowKit.intOf x).toNat)
        case atStart => exact ⟨0, Nat.zero_le _, rfl, rfl, X6⟩
        case round =>
          obtain ⟨k, hk, rfl, rfl, X⟩ := hrel
          rename World => wr
          have HCS := hide (cutsB_succ (D1.map PD.p) (D2.map PD.p) s k)
          by_cases hlt : k ≤ s.length
          · have hlt' : (k : Int) ≤ (s.length : Int) := by omega
            have e1 := ext_take s k
            have e2 := ext_drop s k
            have H1 := hide (fun W (x : Below w3.heap.size w3 W) => HM1.out (s.take k) W (by rw [List.length_take]; omega) x)
            have H2 := hide (fun W (x : Below w3.heap.size w3 W) => HM2.out (s.drop k) W (by rw [List.length_drop]; omega) x)
            obtain ⟨m1, hm1⟩ : ∃ m, Hid (m = mtF (D1.map PD.p) (s.take k) (D1.map PD.p).length) := ⟨_, rfl⟩
            obtain ⟨m2, hm2⟩ : ∃ m, Hid (m = mtF (D2.map PD.p) (s.drop k) (D2.map PD.p).length) := ⟨_, rfl⟩
            rw [← hm1.out] at H1 HCS
            rw [← hm2.out] at H2 HCS
            obtain ⟨q1, hq1⟩ : ∃ q, Hid (q = s.take k) := ⟨_, rfl⟩
            obtain ⟨q2, hq2⟩ : ∃ q, Hid (q = s.drop k) := ⟨_, rfl⟩
            rw [← hq1.out] at e1 H1
            rw [← hq2.out] at e2 H2
            generalize cutsB (D1.map PD.p) (D2.map PD.p) s k = so at *
            have HW : Hid (∀ m1' m2' so' : Bool, m1' = m1 → m2' = m2 → so' = so → Calls Try.prog 19 #[.slice a1 D1.length c1, .string ⟨q1.toArray⟩] wr fun e w' => e = .returned (.tuple #[.bool m1', .int .i64 0]) ∧ Below wr.heap.size wr w') := fun m1' m2' so' h1 _ _ => by rw [h1]; exact H1.out wr X.out
            cases so with
            | true =>
              go_wp2_with (first
                | (go_at_call 19; refine (H1.out _ X.out).mono ?_; rintro e w7 ⟨rfl, x7⟩; have X7 := hide (bt X.out x7 (Nat.le_refl _)); clear x7 HW H1)
                | (go_at_call 19; refine (H2.out _ X7.out).mono ?_; rintro e w8 ⟨rfl, x8⟩; have X8 := hide (bt X7.out x8 (Nat.le_refl _)); clear x8))
              go_roundw
              case rel => exact ⟨k + 1, by omega, by go_num, by rw [HCS.out]; rfl, X8⟩
              case measure => simp [RowKit.intOf]; omega
            | false =>
              cases m1 with
              | true =>
                go_wp2_with (first
                  | (go_at_call 19; refine (H1.out _ X.out).mono ?_; rintro e w7 ⟨rfl, x7⟩; have X7 := hide (bt X.out x7 (Nat.le_refl _)); clear x7 HW H1)
                  | (go_at_call 19; refine (H2.out _ X7.out).mono ?_; rintro e w8 ⟨rfl, x8⟩; have X8 := hide (bt X7.out x8 (Nat.le_refl _)); clear x8))
                go_roundw
                case rel => exact ⟨k + 1, by omega, by go_num, by rw [HCS.out]; cases m2 <;> rfl, X8⟩
                case measure => simp [RowKit.intOf]; omega
              | false =>
                go_wp2_with (first
                  | (go_at_call 19; refine (H1.out _ X.out).mono ?_; rintro e w7 ⟨rfl, x7⟩; have X7 := hide (bt X.out x7 (Nat.le_refl _)); clear x7 HW H1)
                  | (go_at_call 19; refine (H2.out _ X7.out).mono ?_; rintro e w8 ⟨rfl, x8⟩; have X8 := hide (bt X7.out x8 (Nat.le_refl _)); clear x8))
                go_roundw
                case rel => exact ⟨k + 1, by omega, by go_num, by rw [HCS.out]; rfl, X8⟩
                case measure => simp [RowKit.intOf]; omega
          · have hnl : ¬ (k : Int) ≤ (s.length : Int) := by omega
            have hkl : k = s.length + 1 := by omega
            subst hkl
            rw [← HCT.out]
            go_wp2
            go_ret
            exact ⟨by cases all <;> rfl, XW.out _ X.out⟩
      · by_cases h64 : D1.length + D2.length ≤ 64
        · obtain ⟨g1, g2, g3, g4⟩ := not_right_cat R1.out R2.out hr6 (by simp; exact h64)
          rw [List.length_map] at g1 g2 g3
          rw [getD_mapz D1 _ (by omega)] at g3
          rw [getD_mapz D2 _ g2] at g4
          have h64' : ¬ (64 : Int) < (D1.length : Int) + (D2.length : Int) := by omega
          have i1 : (0 : Int) < (D1.length : Int) := by omega
          have i2 : (0 : Int) < (D2.length : Int) := by omega
          rcases AT1.out.below X6.out with h | ⟨p1, f1, rfl, _, q1⟩
          · rw [h] at g1; simp at g1
          rcases AT2.out.below X6.out with h | ⟨p2, f2, rfl, _, q2⟩
          · rw [h] at g2; simp at g2
          have y1 := (q1 (D1.length - 1) (by omega)).1
          have y2 := (q2 0 g2).1
          rw [g3] at y1
          simp only [Nat.zero_mul, Nat.add_zero] at y2
          obtain ⟨n1, hn1⟩ : ∃ n, Hid (n = D1.length - 1) := ⟨_, rfl⟩
          rw [← hn1.out] at y1
          have hw1 : (D1.length : Int) - 1 = (n1 : Int) := by have := hn1.out; omega
          have hlt1 : (n1 : Int) < (D1.length : Int) := by have := hn1.out; omega
          generalize D2[0].p.kind = k2 at *
          clear hr6 q1 q2 g1 g2 g3 h64
          go_wp2
          go_ret
          exact ⟨by simp, XW.out _ X6.out⟩
        · have h64' : (64 : Int) < (D1.length : Int) + (D2.length : Int) := by omega
          clear hr6
          go_wp2
          go_ret
          exact ⟨rfl, XW.out _ X6.out⟩
end Go.Proofs.Ytaiijdnfimclbaa
