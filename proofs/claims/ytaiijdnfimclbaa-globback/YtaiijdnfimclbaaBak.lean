/-
  GlobBack, walked: whatever it is given, it answers true; nothing that was there has turned. Condition: lists and texts take no more than a process can hold.
-/
import Derived.Test.YtaiijdnfimclbaaWgt
import Derived.Test.YtaiijdnfimclbaaSme
import Derived.Test.YtaiijdnfimclbaaMBk
import Derived.Test.YtaiijdnfimclbaaMLo2
namespace Go.Proofs.Ytaiijdnfimclbaa
open Go.RowKit Go.Lib

theorem prT_short {L : List Pc} (h : Rt L) : (prT L).length ≤ 4294967296 := by
  have h1 : ∀ p ∈ L, (pcT p).length ≤ 500 := fun p hp => by
    have hr := h.2.1 p hp
    have e1 := escL_len p.b [42, 63, 91, 92]
    have e2 := stT_len p.no p.set
    have e3 : p.set.length ≤ 95 := by
      rcases hr with h | h | h
      · rw [h.2.2.2.2]; decide
      · rw [h.2.2.2]; decide
      · have := set_short p.set 32 h.2.2.1 h.2.2.2.2 (by decide)
        omega
    unfold pcT
    split
    · omega
    · split
      · decide
      · split
        · omega
        · split <;> decide
  have h2 : ∀ M : List Pc, (∀ p ∈ M, (pcT p).length ≤ 500) → (prT M).length ≤ 500 * M.length := fun M => by
    induction M with
    | nil => intro _; simp [prT]
    | cons p M ih =>
      intro hM
      have e : prT (p :: M) = pcT p ++ prT M := by simp [prT]
      have := hM p (by simp)
      have := ih (fun q hq => hM q (List.mem_cons_of_mem _ hq))
      rw [e, List.length_append, List.length_cons]
      omega
  have := h2 L h1
  have := h.1
  omega
theorem cat_str (x y : By) : (⟨x.toArray⟩ : ByteArray) ++ ⟨y.toArray⟩ = ⟨(x ++ y).toArray⟩ := by
  apply ByteArray.ext
  simp
set_option maxRecDepth 100000 in
set_option maxHeartbeats 8000000 in
theorem globBack_any (ao : Option Addr) (cap : Nat) (D : List PD) (s more : By) (w : World) (hl : D.length ≤ 140737488351232) (hs : s.length ≤ 140737488351232) (hm : more.length ≤ 140737488351232) (hat : PcAt w ao D) :
    Calls Try.prog 6 #[.slice ao D.length cap, .string ⟨s.toArray⟩, .string ⟨more.toArray⟩] w fun e w' => e = .returned (.bool true) ∧ Below w.heap.size w w' := by
  have HB := hide (beyond_any ao cap D s w hl hs hat)
  have HAT := hide hat
  clear hat
  go_enter Try.func6, Try.ntmps6
  go_wp2_with (fail)
  refine HB.out.mono ?_
  rintro e w0 ⟨h0, x0⟩
  have X0 := hide x0
  clear x0 HB
  rcases h0 with rfl | ⟨rfl, hD, hs2⟩
  · go_wp2
    go_ret
    exact ⟨rfl, X0.out⟩
  · by_cases hmore : (2147483647 : Int) - (s.length : Int) < (more.length : Int)
    · have ws : IntKind.i64.wrap (2147483647 - (s.length : Int)) = 2147483647 - (s.length : Int) := by simp [IntKind.wrap, IntKind.bits, IntKind.signed]; omega
      clear hD
      go_wp2
      go_ret
      exact ⟨rfl, X0.out⟩
    · have ws : IntKind.i64.wrap (2147483647 - (s.length : Int)) = 2147483647 - (s.length : Int) := by simp [IntKind.wrap, IntKind.bits, IntKind.signed]; omega
      have HD := hide hD
      clear hD
      go_wp2_with (fail)
      refine (known_any _).mono ?_
      rintro e w1 ⟨rfl, x1⟩
      have X1 := hide (bt X0.out x1 (Nat.le_refl _))
      have AT1 := hide (HAT.out.below X1.out)
      clear x1
      have HPR := hide (print_any ao cap D w1 (fun d hd => by have := HD.out d hd; omega) AT1.out)
      have HPS := hide (fun W => parse_any s W (by omega))
      go_wp2_with (fail)
      refine HPR.out.mono ?_
      rintro e w2 ⟨h2, x2⟩
      have X2 := hide (bt X1.out x2 (Nat.le_refl _))
      have AT2 := hide (AT1.out.below x2)
      clear x2 HPR
      rcases h2 with ⟨hR, rfl⟩ | ⟨hR, rfl⟩
      · have HPP := hide (par_print hR)
        have HPL := hide (prT_short hR)
        obtain ⟨u, hu⟩ : ∃ u, Hid (u = prT (D.map PD.p)) := ⟨_, rfl⟩
        rw [← hu.out] at HPP HPL ⊢
        clear hR
        go_wp2_with (fail)
        refine (parse_any u w2 HPL.out).mono ?_
        rintro e w3 ⟨h3, x3⟩
        obtain ⟨v3, E, rfl, o3, hE⟩ := h3.ok HPP.out
        obtain ⟨a3, c3, rfl, _, at3⟩ := o3.at
        have X3 := hide (bt X2.out x3 (Nat.le_refl _))
        have HSM := hide (same_any a3 ao c3 cap E D w3 (by have := congrArg List.length hE; simp at this; omega) (fun d hd => by
          have hm' : d.p ∈ D.map PD.p := by rw [← hE]; exact List.mem_map.2 ⟨d, hd, rfl⟩
          obtain ⟨f, hf, hfe⟩ := List.mem_map.1 hm'
          rw [← hfe]
          have := HD.out f hf
          omega) hE at3 (AT2.out.below x3))
        clear h3 x3 o3 hE at3
        go_wp2_with (fail)
        refine HSM.out.mono ?_
        rintro e w4 ⟨rfl, x4⟩
        have X4 := hide (bt X3.out x4 (Nat.le_refl _))
        clear x4 HSM
        go_wp2_with (fail)
        refine (HPS.out _).mono ?_
        rintro e w5 ⟨h5, x5⟩
        have X5 := hide (bt X4.out x5 (Nat.le_refl _))
        clear x5
        cases hp : parL s with
        | error t =>
          obtain ⟨rfl, htl⟩ := h5.err hp
          clear h5
          cases t with
          | nil =>
            simp only [List.length_nil, Nat.sub_zero]
            clear hp htl
            go_wp2
            go_ret
            exact ⟨rfl, X5.out⟩
          | cons c t =>
            obtain ⟨x, hx, hloc⟩ := parL_loc hp more
            have hxl : s.length - (c :: t).length = x.length := by rw [hx, List.length_append]; omega
            have hxs : x.length + 1 ≤ s.length := by rw [hx, List.length_append, List.length_cons]; omega
            rw [hxl]
            have z1 : ¬ (s.length : Int) < (x.length : Int) := by omega
            have z2 : ¬ (x.length : Int) = (s.length : Int) := by omega
            have z3 : (x.length : Int) + 1 ≤ (s.length : Int) := by omega
            have z4 : (0 : Int) ≤ (x.length : Int) + 1 := by omega
            have z5 : ((x.length : Int) + 1).toNat = x.length + 1 := by omega
            have wz : IntKind.i64.wrap ((x.length : Int) + 1) = (x.length : Int) + 1 := by simp [IntKind.wrap, IntKind.bits, IntKind.signed]; omega
            have e1 : (⟨s.toArray⟩ : ByteArray).extract 0 (x.length + 1) = ⟨(x ++ [c]).toArray⟩ := by
              rw [ext_take, hx, show x.length + 1 = (x ++ [c]).length by simp, show x ++ c :: t = (x ++ [c]) ++ t by simp, List.take_left]
            have e2 := cat_str (x ++ [c]) more
            rw [show (x ++ [c]) ++ more = x ++ c :: more by simp] at e2
            have hq : (x ++ [c]).length = x.length + 1 := by simp
            have hr : (x ++ c :: more).length = x.length + 1 + more.length := by simp; omega
            have HPE := hide (fun W => parse_any (x ++ c :: more) W (by rw [hr]; omega))
            have HLO := hide hloc
            have HRL : Hid ((x ++ c :: more).length - (c :: more).length = x.length) := by unfold Hid; rw [hr, List.length_cons]; omega
            obtain ⟨q, hqe⟩ : ∃ q, Hid (q = x ++ [c]) := ⟨_, rfl⟩
            obtain ⟨r, hre⟩ : ∃ r, Hid (r = x ++ c :: more) := ⟨_, rfl⟩
            rw [← hqe.out] at e1 e2 hq
            rw [← hre.out] at e2 HPE HLO HRL
            obtain ⟨n, hne⟩ : ∃ n, Hid (n = x.length) := ⟨_, rfl⟩
            rw [← hne.out] at z1 z2 z3 z4 z5 wz e1 hq HRL hxs ⊢
            have hql : q.length ≤ 2147483647 := by omega
            have hml : more.length ≤ 2147483647 := by omega
            clear hp htl hx hloc hxl hr
            go_wp2_with (fail)
            refine (HPE.out _).mono ?_
            rintro e w6 ⟨h6, x6⟩
            obtain ⟨rfl, _⟩ := h6.err HLO.out
            have X6 := hide (bt X5.out x6 (Nat.le_refl _))
            rw [HRL.out]
            clear h6 x6
            go_wp2
            go_ret
            exact ⟨rfl, X6.out⟩
        | ok L =>
          obtain ⟨v5, E5, rfl, o5, hE5⟩ := h5.ok hp
          obtain ⟨a5, c5, rfl, _, at5⟩ := o5.at
          have RL := hide (parL_right hp)
          have HPP := hide (par_print RL.out)
          have HPL := hide (prT_short RL.out)
          have HSL := hide (right_set_len RL.out)
          have A5 := hide at5
          have HE5 := hide hE5
          have HLN : Hid (∀ E : List PD, E.map PD.p = L → ∀ d ∈ E, d.p.set.length ≤ 4294967296) := fun E hE d hd => HSL.out d.p (by rw [← hE]; exact List.mem_map.2 ⟨d, hd, rfl⟩)
          have HEL : Hid (∀ E : List PD, E.map PD.p = L → E.length ≤ 64) := fun E hE => by have := RL.out.1; rw [← hE] at this; simpa using this
          obtain ⟨u5, hu5⟩ : ∃ u, Hid (u = prT L) := ⟨_, rfl⟩
          rw [← hu5.out] at HPP HPL
          clear h5 hp o5 at5 hE5
          have HP1 := hide (print_any a5 c5 E5 w5 (HLN.out E5 HE5.out) A5.out)
          rw [HE5.out] at HP1
          go_wp2_with (fail)
          refine HP1.out.mono ?_
          rintro e w6 ⟨h6, x6⟩
          have X6 := hide (bt X5.out x6 (Nat.le_refl _))
          have A6 := hide (A5.out.below x6)
          clear x6 HP1
          rcases h6 with ⟨_, rfl⟩ | ⟨h6, _⟩
          · rw [← hu5.out]
            go_wp2_with (fail)
            refine (parse_any u5 w6 HPL.out).mono ?_
            rintro e w7 ⟨h7, x7⟩
            obtain ⟨v7, E7, rfl, o7, hE7⟩ := h7.ok HPP.out
            obtain ⟨a7, c7, rfl, _, at7⟩ := o7.at
            have X7 := hide (bt X6.out x7 (Nat.le_refl _))
            have A7 := hide (A6.out.below x7)
            have B7 := hide at7
            have HE7 := hide hE7
            clear h7 x7 o7 at7 hE7
            have HP2 := hide (print_any a7 c7 E7 w7 (HLN.out E7 HE7.out) B7.out)
            rw [HE7.out] at HP2
            go_wp2_with (fail)
            refine HP2.out.mono ?_
            rintro e w8 ⟨h8, x8⟩
            have X8 := hide (bt X7.out x8 (Nat.le_refl _))
            have HSM := hide (same_any a5 a7 c5 c7 E5 E7 w8 (by have := HEL.out E5 HE5.out; omega) (fun d hd => by have := HLN.out E5 HE5.out d hd; omega) (HE5.out.trans HE7.out.symm) (A7.out.below x8) (B7.out.below x8))
            clear x8 HP2
            rcases h8 with ⟨_, rfl⟩ | ⟨h8, _⟩
            · rw [← hu5.out]
              go_wp2_with (fail)
              refine HSM.out.mono ?_
              rintro e w9 ⟨rfl, x9⟩
              have X9 := hide (bt X8.out x9 (Nat.le_refl _))
              clear x9 HSM
              go_wp2
              go_ret
              exact ⟨by simp, X9.out⟩
            · exact absurd RL.out h8
          · exact absurd RL.out h6
      · clear hR
        go_wp2_with (fail)
        refine (HPS.out _).mono ?_
        rintro e w5 ⟨h5, x5⟩
        have X5 := hide (bt X2.out x5 (Nat.le_refl _))
        clear x5
        cases hp : parL s with
        | error t =>
          obtain ⟨rfl, htl⟩ := h5.err hp
          clear h5
          cases t with
          | nil =>
            simp only [List.length_nil, Nat.sub_zero]
            clear hp htl
            go_wp2
            go_ret
            exact ⟨rfl, X5.out⟩
          | cons c t =>
            obtain ⟨x, hx, hloc⟩ := parL_loc hp more
            have hxl : s.length - (c :: t).length = x.length := by rw [hx, List.length_append]; omega
            have hxs : x.length + 1 ≤ s.length := by rw [hx, List.length_append, List.length_cons]; omega
            rw [hxl]
            have z1 : ¬ (s.length : Int) < (x.length : Int) := by omega
            have z2 : ¬ (x.length : Int) = (s.length : Int) := by omega
            have z3 : (x.length : Int) + 1 ≤ (s.length : Int) := by omega
            have z4 : (0 : Int) ≤ (x.length : Int) + 1 := by omega
            have z5 : ((x.length : Int) + 1).toNat = x.length + 1 := by omega
            have wz : IntKind.i64.wrap ((x.length : Int) + 1) = (x.length : Int) + 1 := by simp [IntKind.wrap, IntKind.bits, IntKind.signed]; omega
            have e1 : (⟨s.toArray⟩ : ByteArray).extract 0 (x.length + 1) = ⟨(x ++ [c]).toArray⟩ := by
              rw [ext_take, hx, show x.length + 1 = (x ++ [c]).length by simp, show x ++ c :: t = (x ++ [c]) ++ t by simp, List.take_left]
            have e2 := cat_str (x ++ [c]) more
            rw [show (x ++ [c]) ++ more = x ++ c :: more by simp] at e2
            have hq : (x ++ [c]).length = x.length + 1 := by simp
            have hr : (x ++ c :: more).length = x.length + 1 + more.length := by simp; omega
            have HPE := hide (fun W => parse_any (x ++ c :: more) W (by rw [hr]; omega))
            have HLO := hide hloc
            have HRL : Hid ((x ++ c :: more).length - (c :: more).length = x.length) := by unfold Hid; rw [hr, List.length_cons]; omega
            obtain ⟨q, hqe⟩ : ∃ q, Hid (q = x ++ [c]) := ⟨_, rfl⟩
            obtain ⟨r, hre⟩ : ∃ r, Hid (r = x ++ c :: more) := ⟨_, rfl⟩
            rw [← hqe.out] at e1 e2 hq
            rw [← hre.out] at e2 HPE HLO HRL
            obtain ⟨n, hne⟩ : ∃ n, Hid (n = x.length) := ⟨_, rfl⟩
            rw [← hne.out] at z1 z2 z3 z4 z5 wz e1 hq HRL hxs ⊢
            have hql : q.length ≤ 2147483647 := by omega
            have hml : more.length ≤ 2147483647 := by omega
            clear hp htl hx hloc hxl hr
            go_wp2_with (fail)
            refine (HPE.out _).mono ?_
            rintro e w6 ⟨h6, x6⟩
            obtain ⟨rfl, _⟩ := h6.err HLO.out
            have X6 := hide (bt X5.out x6 (Nat.le_refl _))
            rw [HRL.out]
            clear h6 x6
            go_wp2
            go_ret
            exact ⟨rfl, X6.out⟩
        | ok L =>
          obtain ⟨v5, E5, rfl, o5, hE5⟩ := h5.ok hp
          obtain ⟨a5, c5, rfl, _, at5⟩ := o5.at
          have RL := hide (parL_right hp)
          have HPP := hide (par_print RL.out)
          have HPL := hide (prT_short RL.out)
          have HSL := hide (right_set_len RL.out)
          have A5 := hide at5
          have HE5 := hide hE5
          have HLN : Hid (∀ E : List PD, E.map PD.p = L → ∀ d ∈ E, d.p.set.length ≤ 4294967296) := fun E hE d hd => HSL.out d.p (by rw [← hE]; exact List.mem_map.2 ⟨d, hd, rfl⟩)
          have HEL : Hid (∀ E : List PD, E.map PD.p = L → E.length ≤ 64) := fun E hE => by have := RL.out.1; rw [← hE] at this; simpa using this
          obtain ⟨u5, hu5⟩ : ∃ u, Hid (u = prT L) := ⟨_, rfl⟩
          rw [← hu5.out] at HPP HPL
          clear h5 hp o5 at5 hE5
          have HP1 := hide (print_any a5 c5 E5 w5 (HLN.out E5 HE5.out) A5.out)
          rw [HE5.out] at HP1
          go_wp2_with (fail)
          refine HP1.out.mono ?_
          rintro e w6 ⟨h6, x6⟩
          have X6 := hide (bt X5.out x6 (Nat.le_refl _))
          have A6 := hide (A5.out.below x6)
          clear x6 HP1
          rcases h6 with ⟨_, rfl⟩ | ⟨h6, _⟩
          · rw [← hu5.out]
            go_wp2_with (fail)
            refine (parse_any u5 w6 HPL.out).mono ?_
            rintro e w7 ⟨h7, x7⟩
            obtain ⟨v7, E7, rfl, o7, hE7⟩ := h7.ok HPP.out
            obtain ⟨a7, c7, rfl, _, at7⟩ := o7.at
            have X7 := hide (bt X6.out x7 (Nat.le_refl _))
            have A7 := hide (A6.out.below x7)
            have B7 := hide at7
            have HE7 := hide hE7
            clear h7 x7 o7 at7 hE7
            have HP2 := hide (print_any a7 c7 E7 w7 (HLN.out E7 HE7.out) B7.out)
            rw [HE7.out] at HP2
            go_wp2_with (fail)
            refine HP2.out.mono ?_
            rintro e w8 ⟨h8, x8⟩
            have X8 := hide (bt X7.out x8 (Nat.le_refl _))
            have HSM := hide (same_any a5 a7 c5 c7 E5 E7 w8 (by have := HEL.out E5 HE5.out; omega) (fun d hd => by have := HLN.out E5 HE5.out d hd; omega) (HE5.out.trans HE7.out.symm) (A7.out.below x8) (B7.out.below x8))
            clear x8 HP2
            rcases h8 with ⟨_, rfl⟩ | ⟨h8, _⟩
            · rw [← hu5.out]
              go_wp2_with (fail)
              refine HSM.out.mono ?_
              rintro e w9 ⟨rfl, x9⟩
              have X9 := hide (bt X8.out x9 (Nat.le_refl _))
              clear x9 HSM
              go_wp2
              go_ret
              exact ⟨by simp, X9.out⟩
            · exact absurd RL.out h8
          · exact absurd RL.out h6
end Go.Proofs.Ytaiijdnfimclbaa
