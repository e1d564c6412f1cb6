/-
  GlobPrints, walked. Condition: lists and the text are no longer than a process can hold.
-/
import Derived.Test.YtaiijdnfimclbaaKpt
import Derived.Test.YtaiijdnfimclbaaWgn
import Derived.Test.YtaiijdnfimclbaaKnw
namespace Go.Proofs.Ytaiijdnfimclbaa
open Go.RowKit Go.Lib

theorem PrIs.one (L : List Pc) : ∃ (T : By) (c : Int), ∀ e, PrIs L e → e = .returned (.tuple #[.string ⟨T.toArray⟩, .int .i64 c]) := by
  by_cases h : Rt L
  · exact ⟨prT L, 0, fun e he => by
      rcases he with ⟨_, he⟩ | ⟨h1, _⟩
      · exact he
      · exact absurd h h1⟩
  · exact ⟨[], 1, fun e he => by
      rcases he with ⟨h1, _⟩ | ⟨_, he⟩
      · exact absurd h1 h
      · exact he⟩
theorem MaIs.one (L : List Pc) (s : By) : ∃ (b : Bool) (c : Int), ∀ e, MaIs L s e → e = .returned (.tuple #[.bool b, .int .i64 c]) := by
  by_cases h : Rt L
  · exact ⟨mtF L s L.length, 0, fun e he => by
      rcases he with ⟨_, he⟩ | ⟨h1, _⟩
      · exact he
      · exact absurd h h1⟩
  · exact ⟨false, 1, fun e he => by
      rcases he with ⟨h1, _⟩ | ⟨_, he⟩
      · exact absurd h1 h
      · exact he⟩
/-- The four calls of one list of pieces tell the same. -/
structure Four (ao : Option Addr) (n cap : Nat) (s : By) (T : By) (c : Int) (b : Bool) (d : Int) (W : World) : Prop where
  p1 : Calls Try.prog 17 #[.slice ao n cap] W fun e w' => e = .returned (.tuple #[.string ⟨T.toArray⟩, .int .i64 c]) ∧ Below W.heap.size W w'
  p2 : Calls Try.prog 18 #[.slice ao n cap] W fun e w' => e = .returned (.tuple #[.string ⟨T.toArray⟩, .int .i64 c]) ∧ Below W.heap.size W w'
  m1 : Calls Try.prog 19 #[.slice ao n cap, .string ⟨s.toArray⟩] W fun e w' => e = .returned (.tuple #[.bool b, .int .i64 d]) ∧ Below W.heap.size W w'
  m2 : Calls Try.prog 20 #[.slice ao n cap, .string ⟨s.toArray⟩] W fun e w' => e = .returned (.tuple #[.bool b, .int .i64 d]) ∧ Below W.heap.size W w'
theorem four_of (L : List Pc) (s : By) (hs : s.length ≤ 2147483647) (hL : ∀ p ∈ L, p.set.length ≤ 2147483647) : ∃ (T : By) (c : Int) (b : Bool) (d : Int), ∀ (D : List PD), D.map PD.p = L → ∀ ao cap W, PcAt W ao D → Four ao D.length cap s T c b d W := by
  obtain ⟨T, c, h1⟩ := PrIs.one L
  obtain ⟨b, d, h2⟩ := MaIs.one L s
  refine ⟨T, c, b, d, fun D hD ao cap W hat => ?_⟩
  have hl : ∀ d ∈ D, d.p.set.length ≤ 2147483647 := fun x hx => hL _ (by rw [← hD]; exact List.mem_map.2 ⟨x, hx, rfl⟩)
  subst hD
  refine ⟨(print_any ao cap D W (fun x hx => by have := hl x hx; omega) hat).mono (fun _ _ h => ?_), (refPrint_any ao cap D W (fun x hx => by have := hl x hx; omega) hat).mono (fun _ _ h => ?_), (match_any ao cap D s W (by omega) (fun x hx => by have := hl x hx; omega) hat).mono (fun _ _ h => ?_), (refMatch_any ao cap D s W (by omega) (fun x hx => by have := hl x hx; omega) hat).mono (fun _ _ h => ?_)⟩
  · exact ⟨h1 _ h.1, h.2⟩
  · exact ⟨h1 _ h.1, h.2⟩
  · exact ⟨h2 _ h.1, h.2⟩
  · exact ⟨h2 _ h.1, h.2⟩
set_option maxRecDepth 100000 in
set_option maxHeartbeats 8000000 in
theorem globPrints_any (ao : Option Addr) (cap : Nat) (D : List PD) (s : By) (w : World) (hl : D.length ≤ 140737488351232) (hs : s.length ≤ 140737488351232) (hat : PcAt w ao D) :
    Calls Try.prog 4 #[.slice ao D.length cap, .string ⟨s.toArray⟩] w fun e w' => e = .returned (.bool true) ∧ Below w.heap.size w w' := by
  have HB := hide (beyondN_any ao cap D s w hl hs hat)
  have HAT := hide hat
  clear hat
  go_enter Try.func4, Try.ntmps4
  go_wp2_with (fail)
  refine HB.out.mono ?_
  rintro e w0 ⟨h0, x0⟩
  have X0 := hide x0
  clear x0 HB
  rcases h0 with rfl | ⟨rfl, ⟨hD, hn⟩, hs2⟩
  · go_wp2
    go_ret
    exact ⟨rfl, X0.out⟩
  · have HD := hide hD
    obtain ⟨T, c, b, d, hf4⟩ := four_of (D.map PD.p) s hs2 (fun p hp => by
      obtain ⟨x, hx, rfl⟩ := List.mem_map.1 hp
      exact hD x hx)
    have HF4 := hide hf4
    clear hD hf4
    have HKN := hide known_any
    go_wp2_with (go_at_call 9; refine (HKN.out _).mono ?_; rintro e w1 ⟨rfl, x1⟩; have X1 := hide (bt X0.out x1 (Nat.le_refl _)); clear x1)
    refine (lent_any ao cap D w1 (by omega) (fun x hx => by have := HD.out x hx; omega) (HAT.out.below X1.out)).mono ?_
    rintro e w2 ⟨rfl, E, hLS⟩
    have S2 := hide hLS.q.1
    have HE := hide hLS.q.2
    have HLE := hide hLS.len
    obtain ⟨g, hg⟩ : ∃ g, Hid (g = w1.heap.size) := ⟨_, rfl⟩
    rw [← hg.out] at S2 ⊢
    have hgw : Hid (g ≤ w1.heap.size) := by unfold Hid; rw [hg.out]; exact Nat.le_refl _
    have HXW : Hid (∀ F t W, LnQ w1 g F t W → Below w.heap.size w W) := fun F t W h => by
      have h1 := h.bel
      rw [hg.out] at h1
      exact bt X1.out h1 (Nat.le_refl _)
    have HO : Hid (∀ W, LnQ w1 g E (-77) W → Four (some ⟨g, 0, none⟩) D.length (D.length + 1) s T c b d W) := fun W h => by
      have := HF4.out E HE.out (some ⟨g, 0, none⟩) (D.length + 1) W h.at
      rwa [HLE.out] at this
    have HL2 : Hid (∀ W, LnQ w1 g E (-77) W → Four ao D.length cap s T c b d W) := fun W h => HF4.out D rfl ao cap W (HAT.out.below (HXW.out _ _ _ h))
    have HK : Hid (∀ W, LnQ w1 g E (-77) W → Calls Try.prog 21 #[.slice (some ⟨g, 0, none⟩) D.length (D.length + 1), .slice ao D.length cap] W fun e w' => e = .returned (.bool true) ∧ Below W.heap.size W w') := fun W h => kept_any ao cap g D E w1 W (by omega) (fun x hx => by have := HD.out x hx; omega) (HAT.out.below (HXW.out _ _ _ h)) h HE.out hgw.out
    have HEB : Hid (∀ e ∈ E, e.p.set.length ≤ 2147483647) := fun e he => by
      have h1 : e.p ∈ D.map PD.p := by rw [← HE.out]; exact List.mem_map.2 ⟨e, he, rfl⟩
      obtain ⟨d', h2, h3⟩ := List.mem_map.1 h1
      rw [← h3]
      exact HD.out d' h2
    clear hLS HKN HF4
    obtain ⟨n, hnn⟩ : ∃ n, Hid (n = D.length) := ⟨_, rfl⟩
    rw [← hnn.out] at HO HL2 HK HLE hn ⊢
    clear hl
    go_wp2_with (first
      | (go_at_call 17; refine (HO.out _ S2.out).p1.mono ?_; rintro e w3 ⟨rfl, x3⟩; have S3 := hide (S2.out.next hgw.out x3); clear x3)
      | (go_at_call 18; refine (HL2.out _ S3.out).p2.mono ?_; rintro e w4 ⟨rfl, x4⟩; have S4 := hide (S3.out.next hgw.out x4); clear x4)
      | (go_at_call 19; refine (HO.out _ S4.out).m1.mono ?_; rintro e w5 ⟨rfl, x5⟩; have S5 := hide (S4.out.next hgw.out x5); clear x5)
      | (go_at_call 20; refine (HL2.out _ S5.out).m2.mono ?_; rintro e w6 ⟨rfl, x6⟩; have S6 := hide (S5.out.next hgw.out x6); clear x6)
      | (go_at_call 21; refine (HK.out _ S6.out).mono ?_; rintro e w7 ⟨rfl, x7⟩; have S7 := hide (S6.out.next hgw.out x7); clear x7))
    obtain ⟨m, hm⟩ : ∃ m, m = n / 2 := ⟨_, rfl⟩
    have hm1 : 2 * m ≤ n := by omega
    have hq1 : (n : Int).tdiv 2 = (m : Int) := by rw [Int.tdiv_eq_ediv_of_nonneg (by omega)]; omega
    have hq2 : (n : Int) / 2 = (m : Int) := by omega
    have hq3 : IntKind.i64.wrap (m : Int) = (m : Int) := by simp [IntKind.wrap, IntKind.bits, IntKind.signed]; omega
    clear hm
    go_loopw [16] (fun x wr => ∃ (k : Nat) (F : List PD), k ≤ m ∧ x = .int .i64 k ∧ Hid (F.length = n) ∧ Hid (∀ e ∈ F, e.p.set.length ≤ 2147483647) ∧ Hid (LnQ w1 g F (-77) wr)) (fun x _ => m - (RowKit.intOf x).toNat)
    case atStart => exact ⟨0, E, Nat.zero_le _, rfl, HLE, HEB, S7⟩
    case round =>
      obtain ⟨k, F, hk, rfl, HFL, HFB, S⟩ := hrel
      rename World => wr
      clear HO HL2 HK HEB HLE S2 S3 S4 S5 S6 S7
      by_cases hlt : k < m
      · have hlt' : (k : Int) < (m : Int) := by omega
        obtain ⟨j, hj⟩ : ∃ j, j = n - 1 - k := ⟨_, rfl⟩
        have hjk : k < n := by omega
        have hjn : j < n := by omega
        have hkF : Hid (k < F.length) := by unfold Hid; rw [HFL.out]; exact hjk
        have hjF : Hid (j < F.length) := by unfold Hid; rw [HFL.out]; exact hjn
        have z1 : (k : Int) < (n : Int) := by omega
        have z2 : (j : Int) < (n : Int) := by omega
        have z3 : (n : Int) - 1 - (k : Int) = (j : Int) := by omega
        have wA : IntKind.i64.wrap ((n : Int) - 1) = (n : Int) - 1 := by simp [IntKind.wrap, IntKind.bits, IntKind.signed]; omega
        clear hj
        have HCL : Hid (∀ W, LnQ w1 g F (-77) W → ∀ i (hi : i < F.length), W.cell? ⟨g, i * 4, none⟩ = some (.int .i64 F[i].p.kind) ∧ W.cell? ⟨g, i * 4 + 1, none⟩ = some (.int .i64 F[i].p.b) ∧ W.cell? ⟨g, i * 4 + 2, none⟩ = some (.bool F[i].p.no) ∧ W.cell? ⟨g, i * 4 + 3, none⟩ = some (.slice F[i].so F[i].p.set.length F[i].sc)) := fun W h i hi => by
          rcases h.at with h1 | ⟨b2, o2, h2, _, hc2⟩
          · rw [h1] at hi; simp at hi
          · injection h2 with h2; injection h2 with h3 h4; subst h3 h4
            obtain ⟨q0, q1, q2, q3, _⟩ := hc2 i hi
            rw [Nat.zero_add] at q0 q1 q2 q3
            exact ⟨q0, q1, q2, q3⟩
        obtain ⟨r0, r1, r2, r3⟩ := HCL.out wr S.out k hkF.out
        have HCJ := hide (fun W h => HCL.out W h j hjF.out)
        have HA1 := hide (fun W (h : LnQ w1 g F (-77) W) => h.all _ (List.getElem_mem hkF.out))
        have HA2 := hide (fun W (h : LnQ w1 g F (-77) W) => h.all _ (List.getElem_mem hjF.out))
        have HB1 := hide (HFB.out _ (List.getElem_mem hkF.out))
        have HB2 := hide (HFB.out _ (List.getElem_mem hjF.out))
        have hgl := lt_of_block S.out.row
        clear HCL
        generalize F[k] = d1 at *
        generalize F[j] = d2 at *
        have R1 := hide (row_put hkF.out d2 (-77))
        have R2 := hide (row_put (show j < (F.set k d2).length by rw [List.length_set]; exact hjF.out) d1 (-77))
        have Z1 : Hid (k * 4 + 4 ≤ (pdCells F ++ tl (-77)).toArray.size) := by unfold Hid; rw [row_size]; have := hkF.out; omega
        have Z2 : Hid (j * 4 + 4 ≤ (pdCells (F.set k d2) ++ tl (-77)).toArray.size) := by unfold Hid; rw [row_size, List.length_set]; have := hjF.out; omega
        have O1 : Hid ((#[Value.int .i64 d1.p.kind, Value.int .i64 d1.p.b, Value.bool d1.p.no, Value.slice d1.so d1.p.set.length d1.sc] : Array Value).all (·.oneCell') = true) := by simp [Hid, Value.oneCell']
        have O2 : Hid ((#[Value.int .i64 d2.p.kind, Value.int .i64 d2.p.b, Value.bool d2.p.no, Value.slice d2.so d2.p.set.length d2.sc] : Array Value).all (·.oneCell') = true) := by simp [Hid, Value.oneCell']
        have SA := hide (S.out.next hgw.out (al (Below.refl wr.heap.size wr) (.cells #[.int .i64 d1.p.kind, .int .i64 d1.p.b, .bool d1.p.no, .slice d1.so d1.p.set.length d1.sc] 44)))
        have BA := hide (heap_alloc_new wr (.cells #[.int .i64 d1.p.kind, .int .i64 d1.p.b, .bool d1.p.no, .slice d1.so d1.p.set.length d1.sc] 44))
        obtain ⟨q0, q1, q2, q3⟩ := HCJ.out _ SA.out
        have SB := hide (SA.out.put k (HA2.out _ SA.out))
        have LB := hide ((HA1.out _ SA.out).kept (kept_row (cs := (pdCells (F.set k d2) ++ tl (-77)).toArray)))
        have BB := hide ((setRow_other _ g wr.heap.size (pdCells (F.set k d2) ++ tl (-77)).toArray (by omega)).trans BA.out)
        go_wp2_with (first
          | (refine wpList_store_part rfl 44 (.tmp 96) (.tmp 95) rfl g (k * 4) #[.int .i64 d2.p.kind, .int .i64 d2.p.b, .bool d2.p.no, .slice d2.so d2.p.set.length d2.sc] rfl rfl 44 _ SA.out.row Try.size44 Z1.out O2.out ?_; rw [R1.out]; generalize (wr.alloc _).setRow g (pdCells (F.set k d2) ++ tl (-77)).toArray = w4 at SB LB BB ⊢; obtain ⟨e0, e1, e2, e3⟩ := cells4 BB.out; have SC := hide (SB.out.put j LB.out))
          | (refine wpList_store_part rfl 44 (.tmp 104) (.tmp 103) rfl g (j * 4) #[.int .i64 d1.p.kind, .int .i64 d1.p.b, .bool d1.p.no, .slice d1.so d1.p.set.length d1.sc] rfl rfl 44 _ SB.out.row Try.size44 Z2.out O1.out ?_; rw [R2.out]))
        go_roundw
        case rel => exact ⟨k + 1, _, by omega, by go_num, by unfold Hid; rw [List.length_set, List.length_set]; exact HFL.out, fun e he => by
          rcases List.mem_or_eq_of_mem_set he with h1 | h1
          · rcases List.mem_or_eq_of_mem_set h1 with h1 | h1
            · exact HFB.out e h1
            · rw [h1]; exact HB2.out
          · rw [h1]; exact HB1.out, SC⟩
        case measure => simp [RowKit.intOf]; omega
      · have hnl : ¬ (k : Int) < (m : Int) := by omega
        obtain ⟨T', c', b', d', hf4⟩ := four_of (F.map PD.p) s hs2 (fun p hp => by
          obtain ⟨x, hx, rfl⟩ := List.mem_map.1 hp
          exact HFB.out x hx)
        have HO : Hid (∀ W, LnQ w1 g F (-77) W → Four (some ⟨g, 0, none⟩) n (n + 1) s T' c' b' d' W) := fun W h => by
          have := hf4 F rfl (some ⟨g, 0, none⟩) (n + 1) W h.at
          rwa [HFL.out] at this
        clear hf4
        go_wp2_with (first
          | (go_at_call 17; refine (HO.out _ S.out).p1.mono ?_; rintro e w3 ⟨rfl, x3⟩; have S3 := hide (S.out.next hgw.out x3); clear x3)
          | (go_at_call 18; refine (HO.out _ S3.out).p2.mono ?_; rintro e w4 ⟨rfl, x4⟩; have S4 := hide (S3.out.next hgw.out x4); clear x4)
          | (go_at_call 19; refine (HO.out _ S4.out).m1.mono ?_; rintro e w5 ⟨rfl, x5⟩; have S5 := hide (S4.out.next hgw.out x5); clear x5)
          | (go_at_call 20; refine (HO.out _ S5.out).m2.mono ?_; rintro e w6 ⟨rfl, x6⟩; have S6 := hide (S5.out.next hgw.out x6); clear x6))
        go_ret
        exact ⟨by first | rfl | simp, HXW.out _ _ _ S6.out⟩
end Go.Proofs.Ytaiijdnfimclbaa
