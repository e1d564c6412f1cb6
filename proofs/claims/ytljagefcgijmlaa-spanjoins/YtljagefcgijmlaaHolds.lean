/-
  SpanHolds, walked: of any two lists and any number it answers true; nothing that was there has turned. Condition: a list is no longer than a process can hold.
-/
import Derived.Test.YtljagefcgijmlaaAwake2
import Derived.Test.YtljagefcgijmlaaMSize
import Derived.Deep.Cut
namespace Go.Proofs.Ytljagefcgijmlaa
open Go.RowKit Go.Lib

theorem told_ok {f : List Bool → Bool} {S : List (List Spn)} {w : World} {e : Ending} {w' : World} (h : Told f S w e w') (hs : ∀ L ∈ S, IsSet L) : ∃ a c M, e = .returned (.tuple #[.slice a M.length c, .int .i64 0]) ∧ Got w' a M ∧ Upto f S 4294967296 M ∧ Below w.heap.size w w' := by
  obtain ⟨b1, ⟨_, v, M, rfl, o, u⟩ | ⟨hn, _⟩⟩ := h
  · obtain ⟨a, c, rfl, h1, h2⟩ := o.shape
    exact ⟨a, c, M, rfl, ⟨h1, fun x hx => (h2 x hx).2⟩, u, b1⟩
  · exact absurd hs hn
theorem make_two (ao : Option Addr) (cap : Nat) (L : List Spn) (w : World) (hl : L.length ≤ 4294967296) (hat : SpAt w ao L) :
    Calls Try.prog 14 #[.slice ao L.length cap] w fun e w' => (∃ a c A, e = .returned (.tuple #[.slice a A.length c, .int .i64 0]) ∧ Got w' a A ∧ IsSet A ∧ (∀ n, memB n A = memB n L) ∧ Below w.heap.size w w') ∨ (e = .returned (.tuple #[.slice none 0 0, .int .i64 20]) ∧ Below w.heap.size w w') := by
  refine (make_any ao cap L w hl hat).mono ?_
  rintro e w' ⟨b1, ⟨_, v, M', rfl, o, s, m, _⟩ | ⟨_, rfl⟩⟩
  · obtain ⟨a, c, rfl, h1, h2⟩ := o.shape
    exact .inl ⟨a, c, M', rfl, ⟨h1, fun x hx => (h2 x hx).2⟩, s, m, b1⟩
  · exact .inr ⟨rfl, b1⟩
theorem both_sets {A B : List Spn} (hA : IsSet A) (hB : IsSet B) : ∀ L ∈ [A, B], IsSet L := fun L hL => by
  simp only [List.mem_cons, List.not_mem_nil, or_false] at hL
  rcases hL with rfl | rfl <;> assumption
theorem one_set {A : List Spn} (hA : IsSet A) : ∀ L ∈ [A], IsSet L := fun L hL => by rw [List.mem_singleton.1 hL]; exact hA
theorem memB_take (L : List Spn) (n : Int) (k : Nat) (hk : k < L.length) : memB n (L.take (k + 1)) = (memB n (L.take k) || (decide ((L.getD k (0, 0)).1 ≤ n) && decide (n ≤ (L.getD k (0, 0)).2))) := by
  rw [take_getD L k hk, memB_append, memB_cons, memB_nil, Bool.or_false]
theorem has_set {A : List Spn} (hA : IsSet A) (n : Int) : hasL A n = memB n A := by simp [hasL, hA]

/-- Six lists that came out, put into one. -/
theorem six_at {w : World} {a1 a2 a3 a4 a5 a6 : Option Addr} {c1 c2 c3 c4 c5 c6 : Nat} {A B C D E F : List Spn} (h1 : Got w a1 A) (h2 : Got w a2 B) (h3 : Got w a3 C) (h4 : Got w a4 D) (h5 : Got w a5 E) (h6 : Got w a6 F) (ob : Obj) :
    SsAt (w.heap.size + 1) ((w.alloc (.cells #[.slice a1 A.length c1, .slice a2 B.length c2, .slice a3 C.length c3, .slice a4 D.length c4, .slice a5 E.length c5, .slice a6 F.length c6] 22)).alloc ob) (some ⟨w.heap.size, 0, none⟩) [A, B, C, D, E, F] := by
  have hb : Below w.heap.size w (w.alloc (.cells #[.slice a1 A.length c1, .slice a2 B.length c2, .slice a3 C.length c3, .slice a4 D.length c4, .slice a5 E.length c5, .slice a6 F.length c6] 22)) := (Below.refl _ _).alloc (Nat.le_refl _) _
  have hs : (w.alloc (.cells #[.slice a1 A.length c1, .slice a2 B.length c2, .slice a3 C.length c3, .slice a4 D.length c4, .slice a5 E.length c5, .slice a6 F.length c6] 22)).heap.size = w.heap.size + 1 := by simp
  refine SsAt.below ?_ ((Below.refl (w.heap.size + 1) _).alloc (by omega) ob)
  refine .inr ⟨w.heap.size, 0, rfl, by omega, fun i hi => ?_⟩
  match i, hi with
  | 0, _ => exact ⟨a1, c1, by simp, h1.at'.below hb, fun x hx => by have := h1.lt x hx; omega⟩
  | 1, _ => exact ⟨a2, c2, by simp, h2.at'.below hb, fun x hx => by have := h2.lt x hx; omega⟩
  | 2, _ => exact ⟨a3, c3, by simp, h3.at'.below hb, fun x hx => by have := h3.lt x hx; omega⟩
  | 3, _ => exact ⟨a4, c4, by simp, h4.at'.below hb, fun x hx => by have := h4.lt x hx; omega⟩
  | 4, _ => exact ⟨a5, c5, by simp, h5.at'.below hb, fun x hx => by have := h5.lt x hx; omega⟩
  | 5, _ => exact ⟨a6, c6, by simp, h6.at'.below hb, fun x hx => by have := h6.lt x hx; omega⟩
theorem want6 {A B U V W Z : List Spn} (hA : IsSet A) (hB : IsSet B) (hU : Upto fOr [A, B] 4294967296 U) (hV : Upto fAnd [A, B] 4294967296 V) (hW : Upto fSub [A, B] 4294967296 W) (hZ : Upto fNot [A] 4294967296 Z) (n : Int) (x y nv : Bool) (hx : x = memB n A) (hy : y = memB n B) (hn : nv = (decide (0 ≤ n) && decide (n < 4294967296))) :
    bools [x, y, x || y, x && y, x && !y, nv && !x] = bools ([A, B, U, V, W, Z].map (memB n)) := by
  simp only [List.map_cons, List.map_nil]
  rw [or_mem hA hB hU, and_mem hA hV, sub_mem hA hW, not_mem hZ, ← hx, ← hy, hn]

set_option maxRecDepth 100000 in
set_option maxHeartbeats 40000000 in
theorem holds_law (a1 a2 : Option Addr) (c1 c2 : Nat) (L M : List Spn) (n : Int) (w : World) (g1 : SpAt w a1 L) (g2 : SpAt w a2 M) (hl : L.length ≤ 140737488351232) (hm : M.length ≤ 140737488351232) :
    Calls Try.prog 6 #[.slice a1 L.length c1, .slice a2 M.length c2, .int .i64 n] w fun e w' => e = .returned (.bool true) ∧ Below w.heap.size w w' := by
  have hadd := addsUp_any (L.length : Int) (M.length : Int) (by omega) (by omega) w
  have haw := awake_any w
  have G1 := hide g1
  have G2 := hide g2
  clear g1 g2
  go_enter Try.func6, Try.ntmps6
  go_wp2_with (fail)
  refine hadd.mono ?_
  rintro e wz ⟨⟨N, rfl, n0, n1, n2⟩, hwz⟩
  have hwz' := hwz.symm
  subst hwz'
  by_cases hbig : 2147483647 < N
  · clear haw
    go_wp2
    go_ret
    exact ⟨rfl, Below.refl _ _⟩
  have hN := n2 (by omega)
  have hl4 : L.length ≤ 4294967296 := by omega
  have hm4 : M.length ≤ 4294967296 := by omega
  clear n2 hadd
  go_wp2_with (go_at_call 9; refine haw.mono ?_; rintro e w1 ⟨rfl, x1⟩; have X1 := hide x1; clear x1)
  all_goals first | (exfalso; omega) | skip
  clear haw
  refine (make_two a1 c1 L w1 hl4 (G1.out.below X1.out)).mono ?_
  rintro e w2 h2
  have hm2 : ∀ W, Below w1.heap.size w1 W → _ := fun W hW => make_two a2 c2 M W hm4 ((G2.out.below X1.out).below hW)
  have h00 := Nat.le_refl w.heap.size
  rcases h2 with ⟨aA, cA, A, rfl, gA, sA, mA, x2⟩ | ⟨rfl, x2⟩
  rotate_left
  · have X2 := hide x2
    have hcon := hm2 w2 x2
    clear x2 hm2
    go_wp2_with (fail)
    refine hcon.mono ?_
    rintro e w3 (⟨aB, cB, B, rfl, gB, sB, mB, x3⟩ | ⟨rfl, x3⟩)
    · have X3 := hide x3
      clear gB sB mB x3 hcon
      go_wp2
      go_ret
      exact ⟨rfl, bt (bt X1.out X2.out h00) X3.out h00⟩
    · have X3 := hide x3
      clear x3 hcon
      go_wp2
      go_ret
      exact ⟨rfl, bt (bt X1.out X2.out h00) X3.out h00⟩
  have hcon := hm2 w2 x2
  have X2 := hide x2
  have GA := hide gA
  have SA := hide sA
  have MA := hide mA
  clear x2 hm2 gA sA mA
  go_wp2_with (fail)
  refine hcon.mono ?_
  rintro e w3 (⟨aB, cB, B, rfl, gB, sB, mB, x3⟩ | ⟨rfl, x3⟩)
  rotate_left
  · have X3 := hide x3
    clear x3 hcon
    go_wp2
    go_ret
    exact ⟨rfl, bt (bt X1.out X2.out h00) X3.out h00⟩
  have X3 := hide x3
  have GA3 := hide (GA.out.below x3)
  have GB := hide gB
  have SB := hide sB
  have hb3 : Below w.heap.size w w3 := bt (bt X1.out X2.out h00) x3 h00
  have HB3 := hide hb3
  have GL := hide (((G1.out.below X1.out).below X2.out).below x3)
  clear x3 hcon gB sB mB hb3 GA
  go_wp2
  go_loopw [12, 13] (fun b i wr => ∃ k : Nat, k ≤ L.length ∧ i = .int .i64 k ∧ b = .bool (memB n (L.take k)) ∧ Below w3.heap.size w3 wr) (fun _ i _ => L.length - (intOf i).toNat)
  case atStart => exact ⟨0, Nat.zero_le _, rfl, rfl, Below.refl _ _⟩
  case round =>
    obtain ⟨k, hk, rfl, rfl, hwr⟩ := hrel
    have HWR := hide hwr
    clear hwr
    by_cases hlt : k < L.length
    · obtain ⟨b, off, rfl, hb, hc⟩ := (GL.out.below HWR.out).get hlt
      obtain ⟨q1, q2⟩ := hc k hlt
      have hst := memB_take L n k hlt
      obtain ⟨s, hs⟩ : ∃ s, s = L.getD k (0, 0) := ⟨_, rfl⟩
      rw [← hs] at q1 q2 hst
      have HST := hide hst
      obtain ⟨bv, hbv⟩ : ∃ bv, bv = memB n (L.take k) := ⟨_, rfl⟩
      rw [← hbv]
      have HBV := hide hbv
      clear hc hst hs hbv
      cases bv with
      | true =>
        go_wp2
        go_roundw
        case rel => exact ⟨k + 1, by omega, by go_num, by rw [HST.out, ← HBV.out]; rfl, HWR.out⟩
        case measure => simp [intOf]; omega
      | false =>
        by_cases z1 : s.1 ≤ n
        · by_cases z2 : n ≤ s.2
          · go_wp2
            go_roundw
            case rel => exact ⟨k + 1, by omega, by go_num, by rw [HST.out, ← HBV.out, decide_eq_true z1, decide_eq_true z2]; rfl, HWR.out⟩
            case measure => simp [intOf]; omega
          · go_wp2
            go_roundw
            case rel => exact ⟨k + 1, by omega, by go_num, by rw [HST.out, ← HBV.out, decide_eq_false z2, Bool.and_false]; rfl, HWR.out⟩
            case measure => simp [intOf]; omega
        · go_wp2
          go_roundw
          case rel => exact ⟨k + 1, by omega, by go_num, by rw [HST.out, ← HBV.out, decide_eq_false z1, Bool.false_and]; rfl, HWR.out⟩
          case measure => simp [intOf]; omega
    · have h8 : k = L.length := by omega
      subst h8
      rw [List.take_length]
      have hx : memB n L = memB n A := (MA.out n).symm
      rw [hx]
      have GA3' := hide (GA3.out.below HWR.out)
      have GB' := hide (GB.out.below HWR.out)
      have HB3' := hide (bt HB3.out HWR.out h00)
      clear GA3 GB HB3 HWR
      have lA := isSet_length SA.out
      have lB := isSet_length SB.out
      have sAB := both_sets SA.out SB.out
      go_wp2_with (fail)
      refine (has_any aA cA A n wr (by omega) GA3'.out.at').mono ?_
      rw [has_set SA.out]
      rintro e w4 ⟨rfl, x4⟩
      have GA4 := hide (GA3'.out.below x4)
      have GB4 := hide (GB'.out.below x4)
      have X4 := hide x4
      clear x4
      go_wp2_with (fail)
      refine (has_any aB cB B n w4 (by omega) GB4.out.at').mono ?_
      rw [has_set SB.out]
      rintro e w5 ⟨rfl, x5⟩
      have GA5 := hide (GA4.out.below x5)
      have GB5 := hide (GB4.out.below x5)
      have X5 := hide x5
      clear x5 GA4 GB4
      go_wp2_with (fail)
      refine (union_any aA aB cA cB A B w5 GA5.out.at' GB5.out.at' GA5.out.lt GB5.out.lt lA lB).mono ?_
      rintro e w6 tu
      obtain ⟨aU, cU, U, rfl, gU, uU, x6⟩ := told_ok tu sAB
      have UU := hide uU
      have GA6 := hide (GA5.out.below x6)
      have GB6 := hide (GB5.out.below x6)
      have GU6 := hide gU
      have X6 := hide x6
      clear x6 GA5 GB5 tu gU uU
      go_wp2_with (fail)
      refine (meet_any aA aB cA cB A B w6 GA6.out.at' GB6.out.at' GA6.out.lt GB6.out.lt lA lB).mono ?_
      rintro e w7 tu
      obtain ⟨aV, cV, V, rfl, gV, uV, x7⟩ := told_ok tu sAB
      have UV := hide uV
      have GA7 := hide (GA6.out.below x7)
      have GB7 := hide (GB6.out.below x7)
      have GU7 := hide (GU6.out.below x7)
      have GV7 := hide gV
      have X7 := hide x7
      clear x7 GA6 GB6 GU6 tu gV uV
      go_wp2_with (fail)
      refine (less_any aA aB cA cB A B w7 GA7.out.at' GB7.out.at' GA7.out.lt GB7.out.lt lA lB).mono ?_
      rintro e w8 tu
      obtain ⟨aW, cW, W, rfl, gW, uW, x8⟩ := told_ok tu sAB
      have UW := hide uW
      have GA8 := hide (GA7.out.below x8)
      have GB8 := hide (GB7.out.below x8)
      have GU8 := hide (GU7.out.below x8)
      have GV8 := hide (GV7.out.below x8)
      have GW8 := hide gW
      have X8 := hide x8
      clear x8 GA7 GB7 GU7 GV7 tu gW uW
      go_wp2_with (fail)
      refine (not_any aA cA A w8 GA8.out.at' GA8.out.lt lA).mono ?_
      rintro e w9 tu
      obtain ⟨aZ, cZ, Z, rfl, gZ, uZ, x9⟩ := told_ok tu (one_set SA.out)
      have UZ := hide uZ
      have GA9 := hide (GA8.out.below x9)
      have GB9 := hide (GB8.out.below x9)
      have GU9 := hide (GU8.out.below x9)
      have GV9 := hide (GV8.out.below x9)
      have GW9 := hide (GW8.out.below x9)
      have GZ9 := hide gZ
      have X9 := hide x9
      clear x9 GA8 GB8 GU8 GV8 GW8 tu gZ uZ
      go_wp2_with (fail)
      refine (not_any aZ cZ Z w9 GZ9.out.at' GZ9.out.lt (isSet_length UZ.out.set)).mono ?_
      rintro e wa tu
      obtain ⟨aK, cK, K1, rfl, gK, uK, xa⟩ := told_ok tu (one_set UZ.out.set)
      have hK := back_is SA.out UZ.out uK
      subst hK
      have GA10 := hide (GA9.out.below xa)
      have GB10 := hide (GB9.out.below xa)
      have GU10 := hide (GU9.out.below xa)
      have GV10 := hide (GV9.out.below xa)
      have GW10 := hide (GW9.out.below xa)
      have GZ10 := hide (GZ9.out.below xa)
      have GK10 := hide gK
      have XA := hide xa
      clear xa GA9 GB9 GU9 GV9 GW9 GZ9 tu gK uK
      go_wp2_with (fail)
      refine (union_any aV aW cV cW V W wa GV10.out.at' GW10.out.at' GV10.out.lt GW10.out.lt (isSet_length UV.out.set) (isSet_length UW.out.set)).mono ?_
      rintro e wb tu
      obtain ⟨aJ, cJ, K2, rfl, gJ, uJ, xb⟩ := told_ok tu (both_sets UV.out.set UW.out.set)
      have hJ := again_is SA.out UV.out UW.out uJ
      subst hJ
      have GA11 := hide (GA10.out.below xb)
      have GB11 := hide (GB10.out.below xb)
      have GU11 := hide (GU10.out.below xb)
      have GV11 := hide (GV10.out.below xb)
      have GW11 := hide (GW10.out.below xb)
      have GZ11 := hide (GZ10.out.below xb)
      have GK11 := hide (GK10.out.below xb)
      have GJ11 := hide gJ
      have XB := hide xb
      clear xb GA10 GB10 GU10 GV10 GW10 GZ10 GK10 tu gJ uJ
      have hbb : Below w.heap.size w wb := bt (bt (bt (bt (bt (bt (bt (bt HB3'.out X4.out h00) X5.out h00) X6.out h00) X7.out h00) X8.out h00) X9.out h00) XA.out h00) XB.out h00
      have HBB := hide hbb
      clear hbb X4 X5 X6 X7 X8 X9 XA XB HB3'
      obtain ⟨xv, hxv⟩ : ∃ xv, xv = memB n K2 := ⟨_, rfl⟩
      obtain ⟨yv, hyv⟩ : ∃ yv, yv = memB n B := ⟨_, rfl⟩
      rw [← hxv, ← hyv]
      have HX := hide hxv
      have HY := hide hyv
      have hsz1 := size_two SA.out SB.out UU.out UV.out
      have hsz2 := size_not SA.out UZ.out
      have zA := sizeL_le SA.out
      have zB := sizeL_le SB.out
      have zU := sizeL_le UU.out.set
      have zV := sizeL_le UV.out.set
      have zZ := sizeL_le UZ.out.set
      have HS6 : Hid (∀ L ∈ [K2, B, U, V, W, Z], IsSet L) := fun L hL => by
        simp only [List.mem_cons, List.not_mem_nil, or_false] at hL
        rcases hL with rfl | rfl | rfl | rfl | rfl | rfl
        · exact SA.out
        · exact SB.out
        · exact UU.out.set
        · exact UV.out.set
        · exact UW.out.set
        · exact UZ.out.set
      have hr : n < 0 ∨ (0 ≤ n ∧ n ≤ 4294967295) ∨ 4294967295 < n := by omega
      obtain ⟨nv, hnv⟩ : ∃ nv, nv = (decide (0 ≤ n) && decide (n < 4294967296)) := ⟨_, rfl⟩
      have HNV := hide hnv
      have HW6 := hide (want6 SA.out SB.out UU.out UV.out UW.out UZ.out n xv yv nv hxv hyv hnv)
      clear hxv hyv hx sAB hnv
      go_upto_region 24 with fail
      go_cut [29] from 179 (fun c wx => c = .bool nv ∧ wx = wb.alloc (.cells #[.slice aA K2.length cA, .slice aB B.length cB, .slice aU U.length cU, .slice aV V.length cV, .slice aW W.length cW, .slice aZ Z.length cZ] 22))
      case first =>
        rcases hr with hr | hr | hr
        · go_wp2_with fail
          go_meet
          case rel => exact ⟨by rw [HNV.out, decide_eq_false (show ¬ 0 ≤ n by omega), Bool.false_and], rfl⟩
        · obtain ⟨hr1, hr2⟩ := hr
          go_wp2_with fail
          go_meet
          case rel => exact ⟨by rw [HNV.out, decide_eq_true (show 0 ≤ n by omega), decide_eq_true (show n < 4294967296 by omega)]; rfl, rfl⟩
        · go_wp2_with fail
          go_meet
          case rel => exact ⟨by rw [decide_eq_false (show ¬ n ≤ 4294967295 by omega), HNV.out, decide_eq_true (show 0 ≤ n by omega), decide_eq_false (show ¬ n < 4294967296 by omega)]; rfl, rfl⟩
      case rest =>
        obtain ⟨rfl, rfl⟩ := hcut
        clear hr
        go_upto_region 25 with fail
        go_cut [30] from 179 (fun s wx => s = .slice (some ⟨wb.heap.size + 1, 0, none⟩) 6 6 ∧ wx = (wb.alloc (.cells #[.slice aA K2.length cA, .slice aB B.length cB, .slice aU U.length cU, .slice aV V.length cV, .slice aW W.length cW, .slice aZ Z.length cZ] 22)).alloc (.cells (bools [xv, yv, xv || yv, xv && yv, xv && !yv, nv && !xv]) 4))
        case first =>
          clear HW6 HNV HX HY
          cases xv <;> cases yv <;> cases nv <;> (go_wp2_with fail; go_meet; exact ⟨rfl, rfl⟩)
        case rest =>
          obtain ⟨rfl, hwc⟩ := hcut
          rw [HW6.out] at hwc
          have ss : SsAt (wb.heap.size + 1) wc (some ⟨wb.heap.size, 0, none⟩) [K2, B, U, V, W, Z] := by rw [hwc]; exact six_at GA11.out GB11.out GU11.out GV11.out GW11.out GZ11.out _
          have nb : wc.heap[wb.heap.size + 1]? = some (.cells (bools ([K2, B, U, V, W, Z].map (memB n))) 4 (0, 0)) := by
            rw [hwc]
            have := heap_alloc_new (wb.alloc (.cells #[.slice aA K2.length cA, .slice aB B.length cB, .slice aU U.length cU, .slice aV V.length cV, .slice aW W.length cW, .slice aZ Z.length cZ] 22)) (.cells (bools ([K2, B, U, V, W, Z].map (memB n))) 4)
            simpa using this
          have bc : Below wb.heap.size wb wc := by rw [hwc]; exact ((Below.refl _ _).alloc (Nat.le_refl _) _).alloc (by simp) _
          have sc : wc.heap.size = wb.heap.size + 2 := by rw [hwc]; simp
          obtain ⟨S6, hS6⟩ : ∃ S6, S6 = [K2, B, U, V, W, Z] := ⟨_, rfl⟩
          rw [← hS6] at ss nb HS6
          have l6 : S6.length = 6 := by rw [hS6]; rfl
          have SS := hide ss
          have NB := hide nb
          have BC := hide bc
          have L6 := hide l6
          clear hwc ss nb bc HW6 HNV HX HY l6 hS6
          go_wp2
          go_loopw [31] (fun i wr => ∃ k : Nat, k ≤ 6 ∧ i = .int .i64 k ∧ Below wc.heap.size wc wr) (fun i _ => 6 - (intOf i).toNat)
          case atStart => exact ⟨0, Nat.zero_le _, rfl, Below.refl _ _⟩
          case round =>
            obtain ⟨k, hk, rfl, hq⟩ := hrel
            have HQ := hide hq
            clear hq
            by_cases hlt : k < 6
            · rcases SS.out.below (HQ.out.mono (by omega)) with h | ⟨b', off', e', hb', hc'⟩
              · have := L6.out; rw [h] at this; simp at this
              · injection e' with e'
                injection e' with e1 e2 _
                subst e1 e2
                obtain ⟨ai, ci, r1, r2, r3⟩ := hc' k (by have := L6.out; omega)
                have hset := HS6.out (S6.getD k []) (by rw [List.getD_eq_getElem?_getD, List.getElem?_eq_getElem (by have := L6.out; omega)]; exact List.getElem_mem _)
                have r4 : wr.cell? ⟨wb.heap.size + 1, k, none⟩ = some (.bool (memB n (S6.getD k []))) := by
                  rw [HQ.out.cell (p := ⟨wb.heap.size + 1, k, none⟩) (by show wb.heap.size + 1 < _; omega), cell_of_row wc _ _ _ _ _ NB.out, bools_get _ _ (by rw [List.length_map]; have := L6.out; omega)]
                  have hk6 : k < S6.length := by have := L6.out; omega
                  simp [List.getD_eq_getElem?_getD, hk6]
                rw [Nat.zero_add] at r1
                generalize S6.getD k [] = X at r1 r2 r4 hset
                have lX := isSet_length hset
                have hr1 := right_any ai ci X wr (by omega) r2
                rw [decide_eq_true hset] at hr1
                have hr2 : ∀ wq, Below wr.heap.size wr wq → _ := fun wq hwq => has_any ai ci X n wq (by omega) (r2.below hwq)
                simp only [has_set hset] at hr2
                generalize memB n X = bv at r4 hr2
                have lb : wb.heap.size < wr.heap.size := by have := HQ.out.size; omega
                have lb2 : wb.heap.size + 1 < wr.heap.size := by have := HQ.out.size; omega
                clear hc' r2
                cases bv <;>
                  (go_wp2_with (first | (go_at_call 11; refine hr1.mono ?_; rintro e wp ⟨rfl, xp⟩; have t1 := ((xp.cell (p := ⟨wb.heap.size, k, none⟩) lb).trans r1); have t4 := ((xp.cell (p := ⟨wb.heap.size + 1, k, none⟩) lb2).trans r4); have tl := (Nat.lt_of_lt_of_le lb2 xp.size); have XP := hide xp; clear xp) | (go_at_call 12; refine (hr2 wp XP.out).mono ?_; rintro e wq ⟨rfl, xq⟩; have v4 := ((xq.cell (p := ⟨wb.heap.size + 1, k, none⟩) tl).trans t4); have XQ := hide xq; clear xq))
                   go_roundw
                   case rel => exact ⟨k + 1, by omega, by go_num, bt (bt HQ.out XP.out (Nat.le_refl _)) XQ.out (Nat.le_refl _)⟩
                   case measure => simp [intOf]; omega)
            · have h8 : k = 6 := by omega
              subst h8
              have hcr : Below wb.heap.size wb wr := bt BC.out HQ.out (Nat.le_refl _)
              have EA0 := hide (GA11.out.below hcr)
              have EB0 := hide (GB11.out.below hcr)
              have EU0 := hide (GU11.out.below hcr)
              have EV0 := hide (GV11.out.below hcr)
              have EZ0 := hide (GZ11.out.below hcr)
              have EK0 := hide (GK11.out.below hcr)
              have EJ0 := hide (GJ11.out.below hcr)
              have HCR : Hid (Below w.heap.size w wr) := bt HBB.out hcr h00
              clear hcr HQ BC SS NB HS6 L6 GA11 GB11 GU11 GV11 GW11 GZ11 GK11 GJ11 HBB
              have lU := isSet_length UU.out.set
              have lV := isSet_length UV.out.set
              have lZ := isSet_length UZ.out.set
              go_wp2_with (fail)
              refine (spans_any aK aA cK cA K2 K2 wr (by omega) EK0.out.at' EA0.out.at').mono ?_
              rw [decide_eq_true rfl]
              rintro e v1 ⟨rfl, y1⟩
              have Y1 := hide y1
              have EA1 := hide (EA0.out.below y1)
              have EB1 := hide (EB0.out.below y1)
              have EU1 := hide (EU0.out.below y1)
              have EV1 := hide (EV0.out.below y1)
              have EZ1 := hide (EZ0.out.below y1)
              have EJ1 := hide (EJ0.out.below y1)
              clear y1 EA0 EB0 EU0 EV0 EZ0 EJ0 EK0
              go_wp2_with (fail)
              refine (spans_any aJ aA cJ cA K2 K2 v1 (by omega) EJ1.out.at' EA1.out.at').mono ?_
              rw [decide_eq_true rfl]
              rintro e v2 ⟨rfl, y2⟩
              have Y2 := hide y2
              have EA2 := hide (EA1.out.below y2)
              have EB2 := hide (EB1.out.below y2)
              have EU2 := hide (EU1.out.below y2)
              have EV2 := hide (EV1.out.below y2)
              have EZ2 := hide (EZ1.out.below y2)
              clear y2 EA1 EB1 EU1 EV1 EZ1 EJ1
              go_wp2_with (fail)
              refine (size_any aU cU U v2 (by omega) EU2.out.at').mono ?_
              rw [show sizeR U = sizeL U by simp [sizeR, UU.out.set]]
              rintro e v3 ⟨rfl, y3⟩
              have Y3 := hide y3
              have EA3 := hide (EA2.out.below y3)
              have EB3 := hide (EB2.out.below y3)
              have EV3 := hide (EV2.out.below y3)
              have EZ3 := hide (EZ2.out.below y3)
              clear y3
              go_wp2_with (fail)
              refine (size_any aV cV V v3 (by omega) EV3.out.at').mono ?_
              rw [show sizeR V = sizeL V by simp [sizeR, UV.out.set]]
              rintro e v4 ⟨rfl, y4⟩
              have Y4 := hide y4
              have EA4 := hide (EA3.out.below y4)
              have EB4 := hide (EB3.out.below y4)
              have EZ4 := hide (EZ3.out.below y4)
              clear y4
              go_wp2_with (fail)
              refine (size_any aA cA K2 v4 (by omega) EA4.out.at').mono ?_
              rw [show sizeR K2 = sizeL K2 by simp [sizeR, SA.out]]
              rintro e v5 ⟨rfl, y5⟩
              have Y5 := hide y5
              have EA5 := hide (EA4.out.below y5)
              have EB5 := hide (EB4.out.below y5)
              have EZ5 := hide (EZ4.out.below y5)
              clear y5
              go_wp2_with (fail)
              refine (size_any aB cB B v5 (by omega) EB5.out.at').mono ?_
              rw [show sizeR B = sizeL B by simp [sizeR, SB.out]]
              rintro e v6 ⟨rfl, y6⟩
              have Y6 := hide y6
              have EA6 := hide (EA5.out.below y6)
              have EZ6 := hide (EZ5.out.below y6)
              clear y6
              go_wp2_with (fail)
              refine (size_any aA cA K2 v6 (by omega) EA6.out.at').mono ?_
              rw [show sizeR K2 = sizeL K2 by simp [sizeR, SA.out]]
              rintro e v7 ⟨rfl, y7⟩
              have Y7 := hide y7
              have EZ7 := hide (EZ6.out.below y7)
              clear y7
              go_wp2_with (fail)
              refine (size_any aZ cZ Z v7 (by omega) EZ7.out.at').mono ?_
              rw [show sizeR Z = sizeL Z by simp [sizeR, UZ.out.set]]
              rintro e v8 ⟨rfl, y8⟩
              have Y8 := hide y8
              clear y8
              go_wp2
              go_ret
              exact ⟨rfl, bt (bt (bt (bt (bt (bt (bt (bt HCR.out Y1.out h00) Y2.out h00) Y3.out h00) Y4.out h00) Y5.out h00) Y6.out h00) Y7.out h00) Y8.out h00⟩
end Go.Proofs.Ytljagefcgijmlaa
