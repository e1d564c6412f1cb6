/-
  The document's set by its contract. Condition: the text has at most 2^32 bytes.
-/
import Derived.Test.YtaiijdnfimclbaaDs0
import Derived.Deep.DeepCutAuto
namespace Go.Proofs.Ytaiijdnfimclbaa
open Go.RowKit Go.Lib

theorem mb_calls {s : By} {k : Nat} {w : World} (hs : s.length ≤ 4294967296) (hk : k ≤ s.length) : (∀ t, mbL 32 (s.drop k) = .error t → Calls Try.prog 40 #[.string ⟨s.toArray⟩, .int .i64 (k : Nat)] w fun e w' => e = .returned (.tuple #[.int .i64 (-1), .int .i64 0, .int .i64 ((s.length - t.length : Nat) : Int)]) ∧ w' = w) ∧ (∀ c t, mbL 32 (s.drop k) = .ok (c, t) → Calls Try.prog 40 #[.string ⟨s.toArray⟩, .int .i64 (k : Nat)] w fun e w' => e = .returned (.tuple #[.int .i64 (c.toNat : Nat), .int .i64 ((s.length - t.length : Nat) : Int), .int .i64 0]) ∧ w' = w) := by
  have := refMember_any s k w (by omega) hk
  refine ⟨fun t h => ?_, fun c t h => ?_⟩
  · rw [h] at this; exact this
  · rw [h] at this; exact this
theorem own_kept2 {w w' : World} {base g : Nat} {v : Value} {L : List Spn} (h : OwnS w base v L) (k : Kept (fun i => i = g) w w') (hg : g < base) : OwnS w' base v L := by
  have hh : w.ownsRow base 59 2 v L.length (spCells L) := h
  refine ⟨hh.1, ?_⟩
  rcases hh.2 with hn | ⟨b, cap, cur, rfl, hb', hb, r⟩
  · exact .inl hn
  · exact .inr ⟨b, cap, cur, rfl, hb', (k.block b (lt_of_block hb) (by omega)).trans hb, r⟩
theorem ownS_mono {w : World} {base b : Nat} {v : Value} {L : List Spn} (h : OwnS w base v L) (hb : b ≤ base) : OwnS w b v L := by
  have hh : w.ownsRow base 59 2 v L.length (spCells L) := h
  refine ⟨hh.1, ?_⟩
  rcases hh.2 with hn | ⟨g, cap, cur, rfl, hb', r⟩
  · exact .inl hn
  · exact .inr ⟨g, cap, cur, rfl, by omega, r⟩
theorem ds_start (w : World) (s : By) (no : Bool) (k1 : Nat) (hk : k1 ≤ s.length) : DsS w s no (itsL ((s.drop k1).length + 1) (s.drop k1) []) (.slice none 0 0) [] k1 ((s.drop k1).length + 1) ((w.alloc (.cells #[.int .i64 0, .int .i64 0, .bool false, .slice none 0 0] 44)).alloc (.cells #[.int .i64 3, .int .i64 0, .bool no, .slice none 0 0] 44)) := by
  have B4 := (heap_alloc_new w (.cells #[.int .i64 0, .int .i64 0, .bool false, .slice none 0 0] 44))
  have Y1 : Below (w.alloc (.cells #[.int .i64 0, .int .i64 0, .bool false, .slice none 0 0] 44)).heap.size (w.alloc (.cells #[.int .i64 0, .int .i64 0, .bool false, .slice none 0 0] 44)) ((w.alloc (.cells #[.int .i64 0, .int .i64 0, .bool false, .slice none 0 0] 44)).alloc (.cells #[.int .i64 3, .int .i64 0, .bool no, .slice none 0 0] 44)) := al (Below.refl _ _) _
  have B7 : ((w.alloc (.cells #[.int .i64 0, .int .i64 0, .bool false, .slice none 0 0] 44)).alloc (.cells #[.int .i64 3, .int .i64 0, .bool no, .slice none 0 0] 44)).heap[w.heap.size + 1]? = some (.cells #[.int .i64 3, .int .i64 0, .bool no, .slice none 0 0] 44 (0, 0)) := by
    have := heap_alloc_new (w.alloc (.cells #[.int .i64 0, .int .i64 0, .bool false, .slice none 0 0] 44)) (.cells #[.int .i64 3, .int .i64 0, .bool no, .slice none 0 0] 44)
    rwa [show (w.alloc (.cells #[.int .i64 0, .int .i64 0, .bool false, .slice none 0 0] 44)).heap.size = w.heap.size + 1 by simp] at this
  exact ⟨OwnS.nil _ _, hk, rfl, Nat.lt_succ_self _, fun x hx => (by cases hx), (Y1.block _ (lt_of_block B4)).trans B4, B7, al (al (Below.refl _ _) _) _, by simp⟩
theorem st_no {r : By} (h : [33].isPrefixOf r = true) : stL r = match itsL ((r.drop 1).length + 1) (r.drop 1) [] with
    | .error t => .error t
    | .ok (A, t) => .ok (⟨3, 0, true, setOf A⟩, t) := by
  unfold stL
  simp only
  rw [h, if_pos rfl]
  rfl
theorem st_yes {r : By} (h : [33].isPrefixOf r = false) : stL r = match itsL (r.length + 1) r [] with
    | .error t => .error t
    | .ok (A, t) => .ok (⟨3, 0, false, setOf A⟩, t) := by
  unfold stL
  simp only
  rw [h, if_neg (by decide)]
  rfl
theorem pre_len {s : By} {k : Nat} {c : UInt8} (h : [c].isPrefixOf (s.drop k) = true) : k < s.length := by
  by_cases hk : k < s.length
  · exact hk
  · rw [pre_end hk c] at h; cases h
/-- Where the set's items begin, and what is read then. -/
structure Pro (s : By) (k0 : Nat) (w : World) (no : Bool) (k1 : Nat) (R : Except By (List Spn × By)) (R2 : Except By (Pc × By)) (wr : World) : Prop where
  st : DsS w s no R (.slice none 0 0) [] k1 ((s.drop k1).length + 1) wr
  er : ∀ t, R = .error t → R2 = .error t
  ok : ∀ A t, R = .ok (A, t) → R2 = .ok (⟨3, 0, no, setOf A⟩, t)
theorem pro_no (s : By) (k0 : Nat) (w : World) (h : [33].isPrefixOf (s.drop (k0 + 1)) = true) : Pro s k0 w true (k0 + 2) (itsL ((s.drop (k0 + 2)).length + 1) (s.drop (k0 + 2)) []) (stL (s.drop (k0 + 1))) ((w.alloc (.cells #[.int .i64 0, .int .i64 0, .bool false, .slice none 0 0] 44)).alloc (.cells #[.int .i64 3, .int .i64 0, .bool true, .slice none 0 0] 44)) := by
  have hl := pre_len h
  have hst := st_no h
  rw [List.drop_drop] at hst
  exact ⟨ds_start w s true (k0 + 2) (by omega), fun t ht => by rw [hst, ht], fun A t ht => by rw [hst, ht]⟩
theorem pro_yes (s : By) (k0 : Nat) (w : World) (hk : k0 < s.length) (h : [33].isPrefixOf (s.drop (k0 + 1)) = false) : Pro s k0 w false (k0 + 1) (itsL ((s.drop (k0 + 1)).length + 1) (s.drop (k0 + 1)) []) (stL (s.drop (k0 + 1))) ((w.alloc (.cells #[.int .i64 0, .int .i64 0, .bool false, .slice none 0 0] 44)).alloc (.cells #[.int .i64 3, .int .i64 0, .bool false, .slice none 0 0] 44)) := by
  have hst := st_yes h
  exact ⟨ds_start w s false (k0 + 1) (by omega), fun t ht => by rw [hst, ht], fun A t ht => by rw [hst, ht]⟩

set_option maxRecDepth 100000 in
set_option maxHeartbeats 16000000 in
theorem refSet_any (s : By) (k0 : Nat) (w : World) (hs : s.length ≤ 4294967296) (hk0 : k0 < s.length) :
    Calls Try.prog 25 #[.string ⟨s.toArray⟩, .int .i64 (k0 : Nat)] w fun e w' => DsIs s.length w.heap.size (stL (s.drop (k0 + 1))) e w' ∧ Below w.heap.size w w' := by
  obtain ⟨i59, hj, hy0, hy1, hy2⟩ := Try.info59'
  have hw1 : IntKind.i64.wrap ((k0 : Int) + 1) = ((k0 + 1 : Nat) : Int) := by simp [IntKind.wrap, IntKind.bits, IntKind.signed]; omega
  have hw2 : IntKind.i64.wrap (((k0 + 1 : Nat) : Int) + 1) = ((k0 + 2 : Nat) : Int) := by simp [IntKind.wrap, IntKind.bits, IntKind.signed]; omega
  go_enter Try.func25, Try.ntmps25
  go_upto_region 3 with (fail)
  go_cut [30]  (fun sx wx => ∃ b : Bool, sx = .bool b ∧ Hid ([33].isPrefixOf (s.drop (k0 + 1)) = b) ∧ wx = ((w.alloc (.cells #[.int .i64 0, .int .i64 0, .bool false, .slice none 0 0] 44)).alloc (.cells #[.int .i64 3, .int .i64 0, .bool false, .slice none 0 0] 44)))
  case first =>
    by_cases hlx : k0 + 1 < s.length
    · have hlx' : (((k0 + 1 : Nat)) : Int) < (s.length : Int) := by omega
      obtain ⟨cx, hcx⟩ : ∃ c, s[k0 + 1] = c := ⟨_, rfl⟩
      have hgx : ∀ hk, (⟨s.toArray⟩ : ByteArray)[k0 + 1]'hk = cx := fun _ => hcx
      have HB : Hid ([33].isPrefixOf (s.drop (k0 + 1)) = decide (cx = 33)) := by unfold Hid; rw [pre_at hlx, hcx]
      clear hcx
      by_cases hc : cx = 33
      · subst hc
        go_wp2
        go_meet
        exact ⟨true, rfl, HB, rfl⟩
      · have hn : ¬ (cx.toNat : Int) = 33 := fun h => hc ((u8_int cx 33 (by decide)).1 h)
        have nn : ¬ cx.toNat = 33 := by omega
        have bn : ((cx.toNat : Int) == 33) = false := by simp; omega
        have HC : Hid ([33].isPrefixOf (s.drop (k0 + 1)) = false) := HB.out.trans (decide_eq_false hc)
        clear hc HB
        go_wp2
        go_meet
        exact ⟨false, rfl, HC, rfl⟩
    · have hlx' : ¬ (((k0 + 1 : Nat)) : Int) < (s.length : Int) := by omega
      have HB := hide (pre_end hlx 33)
      go_wp2
      go_meet
      exact ⟨false, rfl, HB, rfl⟩
  case rest =>
    obtain ⟨b, rfl, HB, rfl⟩ := hcut
    go_upto_if 30 with fail
    go_cut [1] (fun s1 wx => ∃ k1 no R, s1 = .int .i64 ((k1 : Nat) : Int) ∧ Hid (Pro s k0 w no k1 R (stL (s.drop (k0 + 1))) wx))
    case first =>
      cases b with
      | true =>
        have H := hide (pro_no s k0 w HB.out)
        go_wp2
        go_meet
        exact ⟨k0 + 2, true, _, by first | rfl | go_num | (congr 1; omega), H⟩
      | false =>
        have H := hide (pro_yes s k0 w hk0 HB.out)
        go_wp2
        go_meet
        exact ⟨k0 + 1, false, _, by first | rfl | go_num | (congr 1; omega), H⟩
    case rest =>
      obtain ⟨k1, no, R, rfl, HP⟩ := hcut
      clear hw1 hw2 HB
      go_wp2
      go_loopg [1, 8] (s.length + 1) (fun g x v wr => ∃ (k : Nat) (A : List Spn) (N : Nat), x = .int .i64 k ∧ Hid (DsS w s no R v A k N wr) ∧ s.length - k < g)
      case atStart => exact ⟨k1, _, _, rfl, HP.out.st, by omega⟩
      case round =>
        obtain ⟨k, A, N, rfl, S, hg⟩ := hrel
        have HG := hide hg
        clear hg
        have hkl := S.out.le
        obtain ⟨ao, cp, rfl, _⟩ := own_shape S.out.own
        go_upto_region 7 with fail
        go_cut [48] (fun sx wx => ∃ b : Bool, sx = .bool b ∧ Hid ((!A.isEmpty && [93].isPrefixOf (s.drop k)) = !b) ∧ wx = wr)
        case first =>
          by_cases hlt : k < s.length
          · have hlt' : (k : Int) < (s.length : Int) := by omega
            have hne : ¬ (k : Int) = (s.length : Int) := by omega
            have bkn : ((k : Int) == (s.length : Int)) = false := by simp; omega
            obtain ⟨cx, hcx⟩ : ∃ c, s[k] = c := ⟨_, rfl⟩
            have hgx : ∀ hk, (⟨s.toArray⟩ : ByteArray)[k]'hk = cx := fun _ => hcx
            have HB : Hid ([93].isPrefixOf (s.drop k) = decide (cx = 93)) := by unfold Hid; rw [pre_at hlt, hcx]
            clear hcx
            by_cases hc : cx = 93
            · subst hc
              by_cases hA : A = []
              · have HM : Hid ((!A.isEmpty && [93].isPrefixOf (s.drop k)) = !true) := by rw [hA]; rfl
                subst hA
                go_wp2
                go_meet
                exact ⟨true, rfl, HM, rfl⟩
              · have hA' : ¬ (A.length : Int) = 0 := fun h => hA (List.eq_nil_of_length_eq_zero (by omega))
                have bA : ((A.length : Int) == 0) = false := beq_eq_false_iff_ne.2 hA'
                have HM : Hid ((!A.isEmpty && [93].isPrefixOf (s.drop k)) = !false) := by
                  unfold Hid
                  rw [HB.out]
                  cases A with
                  | nil => exact absurd rfl hA
                  | cons x A => rfl
                clear hA
                go_wp2
                go_meet
                exact ⟨false, rfl, HM, rfl⟩
            · have hn : ¬ (cx.toNat : Int) = 93 := fun h => hc ((u8_int cx 93 (by decide)).1 h)
              have nn : ¬ cx.toNat = 93 := by omega
              have bn : ((cx.toNat : Int) != 93) = true := by simp; omega
              have HM : Hid ((!A.isEmpty && [93].isPrefixOf (s.drop k)) = !true) := by unfold Hid; rw [HB.out, decide_eq_false hc, Bool.and_false]; rfl
              clear hc HB
              go_wp2
              go_meet
              exact ⟨true, rfl, HM, rfl⟩
          · obtain rfl : k = s.length := by omega
            have HM : Hid ((!A.isEmpty && [93].isPrefixOf (s.drop s.length)) = !true) := by
              unfold Hid
              rw [pre_end (Nat.lt_irrefl _), Bool.and_false]; rfl
            go_wp2
            go_meet
            exact ⟨true, rfl, HM, rfl⟩
        case rest =>
          obtain ⟨b, rfl, HM, rfl⟩ := hcut
          cases b with
          | false =>
            have HR := hide (HP.out.ok _ _ (S.out.good HM.out))
            have HAT : Hid (SpAt wc ao A ∧ A.length ≤ cp ∧ (ao = none → cp = 0)) := by
              have ho : wc.ownsRow (w.heap.size + 2) 59 2 (.slice ao A.length cp) A.length (spCells A) := S.out.own
              have hA : A ≠ [] := fun h => by have := HM.out; rw [h] at this; cases this
              rcases ho.2 with ⟨h1, h2⟩ | ⟨g, cap, cur, h1, hb, hg, hnc, _⟩
              · exact absurd (List.eq_nil_of_length_eq_zero h2) hA
              · obtain ⟨ao2, c2, e2, h2, _⟩ := OwnS.shape S.out.own
                simp only [Value.slice.injEq] at h1 e2
                obtain ⟨rfl, _, rfl⟩ := h1
                obtain ⟨rfl, _, rfl⟩ := e2
                exact ⟨h2, hnc, fun h => by cases h⟩
            have hAl : A.length ≤ 4294967296 := by have := S.out.alen; omega
            have HMK := hide (refMake_any ao cp A wc hAl HAT.out.1 HAT.out.2.1 HAT.out.2.2)
            have HBND : Hid (∀ x ∈ A, Bnd x) := fun x hx => (S.out.inb x hx).bnd
            have hlt : k < s.length := pre_len (c := 93) (by have := HM.out; simp only [Bool.not_false, Bool.and_eq_true] at this; exact this.2)
            have z1 : Hid (s.length - (s.drop (k + 1)).length = k + 1) := len_at (by omega)
            go_wp2_with (fail)
            refine HMK.out.mono ?_
            rintro e w2 ⟨x2, hmk⟩
            rcases hmk with ⟨_, v', M, rfl, o2, q1, q2, _⟩ | ⟨hb, _⟩
            · have hMe : setOf A = M := setOf_eq HBND.out q1 q2
              obtain ⟨so, sc, rfl, _, hso⟩ := OwnS.shape o2
              have p7' := (x2.block _ (lt_of_block S.out.p7)).trans S.out.p7
              have z4' := (x2.block _ (lt_of_block S.out.z4)).trans S.out.z4
              obtain ⟨e0, e1, e2, e3⟩ := cells4 p7'
              have g3 := frozen_of_row _ _ 3 _ _ p7'
              have hk7 := Kept.setCell (F := fun i => i = w.heap.size + 1) (p := ⟨w.heap.size + 1, 3, none⟩) (Kept.refl _ w2) rfl (.slice so M.length sc)
              have p7s : (w2.setCell ⟨w.heap.size + 1, 3, none⟩ (.slice so M.length sc)).heap[w.heap.size + 1]? = some (.cells #[.int .i64 3, .int .i64 0, .bool no, .slice so M.length sc] 44 (0, 0)) := block_setCell p7' 3 _
              obtain ⟨e0', e1', e2', e3'⟩ := cells4 p7s
              have z4s := (hk7.block _ (lt_of_block z4') (by omega)).trans z4'
              obtain ⟨c0, f0, c1, f1, c2, f2, c3, f3, B6, k6⟩ := st4 z4s (.int .i64 3) (.int .i64 0) (.bool no) (.slice so M.length sc)
              obtain ⟨d0, d1, d2, d3⟩ := cells4 B6
              have X2 := bt S.out.bel x2 (Nat.le_refl _)
              have hsw := lt_of_block S.out.p7
              have X6 := hide ((X2.trans (hk7.below X2.size (fun i hi => by omega))).trans (k6.below (Nat.le_trans X2.size hk7.size) (fun i hi => by omega)))
              have HO : Hid (OwnS _ wc.heap.size (.slice so M.length sc) M) := own_kept2 (own_kept2 o2 hk7 (by omega)) k6 (by omega)
              have HO2 := hide (ownS_mono (b := w.heap.size) HO.out (by omega))
              have HR' : Hid (stL (s.drop (k0 + 1)) = .ok (⟨3, 0, no, M⟩, s.drop (k + 1))) := by rw [← hMe]; exact HR
              clear B6 k6 hk7 p7s z4s p7' z4' o2 hso q1 q2 x2 hMe X2
              go_wp2
              refine bodyPost_ret (by simp [results, Try.results25, go_sem, d0, d1, d2, d3]; try rfl) rfl ?_
              exact ⟨.inl ⟨⟨3, 0, no, M⟩, s.drop (k + 1), so, sc, HR'.out, by rw [z1.out]; first | rfl | simp, HO2.out⟩, X6.out⟩
            · exact absurd HBND.out hb
          | true =>
            cases hmb : mbL 32 (s.drop k) with
            | error t =>
              have HR := hide (S.out.bad HM.out (it_err hmb))
              have H1 := hide ((mb_calls (w := wc) hs S.out.le).1 _ hmb)
              clear hmb
              obtain ⟨e0, e1, e2, e3⟩ := cells4 S.out.p7
              obtain ⟨c0, f0, c1, f1, c2, f2, c3, f3, B6, k6⟩ := st4 S.out.z4 (.int .i64 3) (.int .i64 0) (.bool no) (.slice none 0 0)
              obtain ⟨d0, d1, d2, d3⟩ := cells4 B6
              have X6 := hide (S.out.bel.trans (k6.below S.out.bel.size (fun i hi => by omega)))
              clear B6 k6
              go_wp2_with (go_at_call 40; refine H1.out.mono ?_; rintro e w2 ⟨rfl, hw⟩; have hw := hw.symm; subst hw; clear H1)
              refine bodyPost_ret (by simp [results, Try.results25, go_sem, d0, d1, d2, d3]; try rfl) rfl ?_
              exact ⟨.inr ⟨_, no, HP.out.er _ HR.out, rfl⟩, X6.out⟩
            | ok x =>
              obtain ⟨lo, t⟩ := x
              have H1 := hide ((mb_calls (w := wc) hs S.out.le).2 _ _ hmb)
              have HMB := hide hmb
              have hts : t <:+ s := (mbL_ok hmb).2.1.trans (List.drop_suffix _ _)
              have ht := suffix_at hts
              obtain ⟨k1, hk1⟩ : ∃ k1, Hid (s.length - t.length = k1) := ⟨_, rfl⟩
              rw [hk1.out] at H1 ht
              have hk1l : k1 ≤ s.length := by rw [← hk1.out]; exact Nat.sub_le _ _
              have hlo' : ¬ (lo.toNat : Int) < 0 := by omega
              have HT := hide ht
              clear hmb hts ht
              go_upto_region 13 with (go_at_call 40; refine H1.out.mono ?_; rintro e w2 ⟨rfl, hw⟩; have hw := hw.symm; subst hw; clear H1)
              go_cut [71]  (fun sx wx => ∃ b : Bool, sx = .bool b ∧ Hid ([45].isPrefixOf (s.drop (k1)) = b) ∧ wx = wc)
              case first =>
                by_cases hlx : k1 < s.length
                · have hlx' : (((k1 : Nat)) : Int) < (s.length : Int) := by omega
                  obtain ⟨cx, hcx⟩ : ∃ c, s[k1] = c := ⟨_, rfl⟩
                  have hgx : ∀ hk, (⟨s.toArray⟩ : ByteArray)[k1]'hk = cx := fun _ => hcx
                  have HB : Hid ([45].isPrefixOf (s.drop (k1)) = decide (cx = 45)) := by unfold Hid; rw [pre_at hlx, hcx]
                  clear hcx
                  by_cases hc : cx = 45
                  · subst hc
                    go_wp2
                    go_meet
                    exact ⟨true, rfl, HB, rfl⟩
                  · have hn : ¬ (cx.toNat : Int) = 45 := fun h => hc ((u8_int cx 45 (by decide)).1 h)
                    have nn : ¬ cx.toNat = 45 := by omega
                    have bn : ((cx.toNat : Int) == 45) = false := by simp; omega
                    have HC : Hid ([45].isPrefixOf (s.drop (k1)) = false) := HB.out.trans (decide_eq_false hc)
                    clear hc HB
                    go_wp2
                    go_meet
                    exact ⟨false, rfl, HC, rfl⟩
                · have hlx' : ¬ (((k1 : Nat)) : Int) < (s.length : Int) := by omega
                  have HB := hide (pre_end hlx 45)
                  go_wp2
                  go_meet
                  exact ⟨false, rfl, HB, rfl⟩
              case rest =>
                obtain ⟨b, rfl, HPR, hw⟩ := hcut
                have hw := hw.symm
                subst hw
                go_upto_if 71 with fail
                go_cut [1, 12, 13, 14, 15] (fun s1 s12 _ _ _ wx => ∃ (hi k2 : Nat) (t2 : By), s1 = .int .i64 (k2 : Nat) ∧ s12 = .int .i64 (hi : Nat) ∧ wx = wc ∧ Hid (itL (s.drop k) = .ok ((((lo.toNat : Nat) : Int), (hi : Int)), t2)) ∧ Hid (s.length - t2.length = k2))
                case first =>
                  cases b with
                  | false =>
                    have HI := hide (it_one HMB.out (by rw [HT.out]; exact HPR.out))
                    go_wp2
                    go_meet
                    exact ⟨lo.toNat, k1, t, rfl, rfl, rfl, HI, hk1⟩
                  | true =>
                    have HTD : Hid (t.drop 1 = s.drop (k1 + 1)) := by unfold Hid; rw [HT.out, List.drop_drop]
                    have HPT : Hid ([45].isPrefixOf t = true) := by unfold Hid; rw [HT.out]; exact HPR.out
                    have hl1 := pre_len HPR.out
                    have hw1 : IntKind.i64.wrap ((k1 : Int) + 1) = ((k1 + 1 : Nat) : Int) := by simp [IntKind.wrap, IntKind.bits, IntKind.signed]; omega
                    cases hm2 : mbL 32 (s.drop (k1 + 1)) with
                    | error u =>
                      have HR := hide (S.out.bad HM.out (it_rng_err HMB.out HPT.out (by rw [HTD.out]; exact hm2)))
                      have H2 := hide ((mb_calls (w := wc) hs (show k1 + 1 ≤ s.length by omega)).1 _ hm2)
                      clear hm2
                      obtain ⟨e0, e1, e2, e3⟩ := cells4 S.out.p7
                      obtain ⟨c0, f0, c1, f1, c2, f2, c3, f3, B6, k6⟩ := st4 S.out.z4 (.int .i64 3) (.int .i64 0) (.bool no) (.slice none 0 0)
                      obtain ⟨d0, d1, d2, d3⟩ := cells4 B6
                      have X6 := hide (S.out.bel.trans (k6.below S.out.bel.size (fun i hi => by omega)))
                      clear B6 k6
                      go_wp2_with (go_at_call 40; refine H2.out.mono ?_; rintro e w3 ⟨rfl, hw⟩; have hw := hw.symm; subst hw; clear H2)
                      refine bodyPost_ret (by simp [results, Try.results25, go_sem, d0, d1, d2, d3]; try rfl) rfl ?_
                      exact ⟨.inr ⟨_, no, HP.out.er _ HR.out, rfl⟩, X6.out⟩
                    | ok x =>
                      obtain ⟨hc, u⟩ := x
                      have H2 := hide ((mb_calls (w := wc) hs (show k1 + 1 ≤ s.length by omega)).2 _ _ hm2)
                      have hus : u <:+ s := (mbL_ok hm2).2.1.trans (List.drop_suffix _ _)
                      have hul : u.length < s.length := by have := (mbL_ok hm2).1; rw [List.length_drop] at this; omega
                      have hu := suffix_at hus
                      obtain ⟨k2, HK2⟩ : ∃ k2, Hid (s.length - u.length = k2) := ⟨_, rfl⟩
                      rw [HK2.out] at H2 hu
                      have hk2l : k2 ≤ s.length := by rw [← HK2.out]; exact Nat.sub_le _ _
                      have hk20 : 0 < k2 := by rw [← HK2.out]; omega
                      have hhi : ¬ (hc.toNat : Int) < 0 := by omega
                      have HU := hide hu
                      clear hus hu
                      by_cases hlow : hc.toNat < lo.toNat
                      · have HR := hide (S.out.bad HM.out (it_rng_low HMB.out HPT.out (by rw [HTD.out]; exact hm2) hlow))
                        have hlw : (hc.toNat : Int) < (lo.toNat : Int) := by omega
                        have HZ : Hid (s.length - (hc :: u).length = k2 - 1) := by unfold Hid; rw [← HK2.out, List.length_cons]; omega
                        have wz : IntKind.i64.wrap ((k2 : Int) - 1) = ((k2 - 1 : Nat) : Int) := by simp [IntKind.wrap, IntKind.bits, IntKind.signed]; omega
                        clear hm2
                        obtain ⟨e0, e1, e2, e3⟩ := cells4 S.out.p7
                        obtain ⟨c0, f0, c1, f1, c2, f2, c3, f3, B6, k6⟩ := st4 S.out.z4 (.int .i64 3) (.int .i64 0) (.bool no) (.slice none 0 0)
                        obtain ⟨d0, d1, d2, d3⟩ := cells4 B6
                        have X6 := hide (S.out.bel.trans (k6.below S.out.bel.size (fun i hi => by omega)))
                        clear B6 k6
                        go_wp2_with (go_at_call 40; refine H2.out.mono ?_; rintro e w3 ⟨rfl, hw⟩; have hw := hw.symm; subst hw; clear H2)
                        refine bodyPost_ret (by simp [results, Try.results25, go_sem, d0, d1, d2, d3]; try rfl) rfl ?_
                        exact ⟨.inr ⟨_, no, HP.out.er _ HR.out, by rw [HZ.out]⟩, X6.out⟩
                      · have hlw : ¬ (hc.toNat : Int) < (lo.toNat : Int) := by omega
                        have HI := hide (it_rng_ok HMB.out HPT.out (by rw [HTD.out]; exact hm2) hlow)
                        clear hm2
                        go_upto_region 21 with (go_at_call 40; refine H2.out.mono ?_; rintro e w3 ⟨rfl, hw⟩; have hw := hw.symm; subst hw; clear H2)
                        go_cut [101]  (fun sx wx => ∃ b : Bool, sx = .bool b ∧ Hid ([45].isPrefixOf (s.drop (k2)) = b) ∧ wx = wc)
                        case first =>
                          by_cases hlx : k2 < s.length
                          · have hlx' : (((k2 : Nat)) : Int) < (s.length : Int) := by omega
                            obtain ⟨cx, hcx⟩ : ∃ c, s[k2] = c := ⟨_, rfl⟩
                            have hgx : ∀ hk, (⟨s.toArray⟩ : ByteArray)[k2]'hk = cx := fun _ => hcx
                            have HB : Hid ([45].isPrefixOf (s.drop (k2)) = decide (cx = 45)) := by unfold Hid; rw [pre_at hlx, hcx]
                            clear hcx
                            by_cases hc : cx = 45
                            · subst hc
                              go_wp2
                              go_meet
                              exact ⟨true, rfl, HB, rfl⟩
                            · have hn : ¬ (cx.toNat : Int) = 45 := fun h => hc ((u8_int cx 45 (by decide)).1 h)
                              have nn : ¬ cx.toNat = 45 := by omega
                              have bn : ((cx.toNat : Int) == 45) = false := by simp; omega
                              have HC : Hid ([45].isPrefixOf (s.drop (k2)) = false) := HB.out.trans (decide_eq_false hc)
                              clear hc HB
                              go_wp2
                              go_meet
                              exact ⟨false, rfl, HC, rfl⟩
                          · have hlx' : ¬ (((k2 : Nat)) : Int) < (s.length : Int) := by omega
                            have HB := hide (pre_end hlx 45)
                            go_wp2
                            go_meet
                            exact ⟨false, rfl, HB, rfl⟩
                        case rest =>
                          obtain ⟨b, rfl, HP2, hw⟩ := hcut
                          have hw := hw.symm
                          subst hw
                          cases b with
                          | true =>
                            have HR := hide (S.out.minus HM.out HI.out (by rw [HU.out]; exact HP2.out))
                            obtain ⟨e0, e1, e2, e3⟩ := cells4 S.out.p7
                            obtain ⟨c0, f0, c1, f1, c2, f2, c3, f3, B6, k6⟩ := st4 S.out.z4 (.int .i64 3) (.int .i64 0) (.bool no) (.slice none 0 0)
                            obtain ⟨d0, d1, d2, d3⟩ := cells4 B6
                            have X6 := hide (S.out.bel.trans (k6.below S.out.bel.size (fun i hi => by omega)))
                            clear B6 k6
                            go_wp2_with (fail)
                            refine bodyPost_ret (by simp [results, Try.results25, go_sem, d0, d1, d2, d3]; try rfl) rfl ?_
                            exact ⟨.inr ⟨_, no, HP.out.er _ HR.out, by rw [HK2.out]⟩, X6.out⟩
                          | false =>
                            go_wp2
                            go_meet
                            exact ⟨hc.toNat, k2, u, rfl, rfl, rfl, HI, HK2⟩
                case rest =>
                  obtain ⟨hi, k2, t2, rfl, rfl, hw, HI, HK2⟩ := hcut
                  have hw := hw.symm
                  subst hw
                  have O5 : Hid ((wc.alloc (.cells #[.int .i64 ((lo.toNat : Nat) : Int), .int .i64 (hi : Int)] 59)).ownsRow (w.heap.size + 2) 59 2 (.slice ao A.length cp) A.length (spCells A)) := own_below S.out.own (al (Below.refl _ _) _)
                  have HNW := hide (new_cells wc (((lo.toNat : Nat) : Int), (hi : Int)) wc.heap.size rfl)
                  have HB5 : Hid (w.heap.size + 2 ≤ (wc.alloc (.cells #[.int .i64 ((lo.toNat : Nat) : Int), .int .i64 (hi : Int)] 59)).heap.size) := by have := lt_of_block S.out.p7; simp [Hid]; omega
                  have HNX : Hid (∀ wq v', wq.ownsRow (w.heap.size + 2) 59 2 v' (A.length + 1) (spCells A ++ [.int .i64 ((lo.toNat : Nat) : Int), .int .i64 (hi : Int)]) → AppAt (wc.alloc (.cells #[.int .i64 ((lo.toNat : Nat) : Int), .int .i64 (hi : Int)] 59)) wq (.slice ao A.length cp) v' → ∃ N', DsS w s no R v' (A ++ [(((lo.toNat : Nat) : Int), (hi : Int))]) k2 N' wq ∧ k2 > k) := fun wq v' g1 g2 => by
                    rw [← HK2.out]
                    refine S.out.next HM.out HI.out (x := (((lo.toNat : Nat) : Int), (hi : Int))) g1 ?_
                    have xa : Below (w.heap.size + 2) wc (wc.alloc (.cells #[.int .i64 ((lo.toNat : Nat) : Int), .int .i64 (hi : Int)] 59)) := (Below.refl _ _).alloc (lt_of_block S.out.p7) _
                    rcases g2 with ⟨g, h1, h2, h3⟩ | ⟨h3, _⟩
                    · exact xa.grown h3 HB5.out (fun i hi => by cases hi; exact (World.ownsRow.lt S.out.own g h1).1)
                    · exact xa.grown h3 HB5.out (fun i hi => by cases hi)
                  have hAl : A.length ≤ 4294967296 := by have := S.out.alen; have := S.out.le; omega
                  have HKE : Hid (k2 ≤ s.length) := by unfold Hid; rw [← HK2.out]; exact Nat.sub_le _ _
                  go_wp2_with (at_builtin; refine wpList_append_view rfl (.tmp 104) (.tmp 108) 42 rfl (w.heap.size + 2) 59 i59 (.agg #[.int .i64 0, .int .i64 0]) 2 16 Try.underlying42 hj hy0 hy1 hy2 rfl (by decide) _ A.length (spCells A) rfl O5.out ⟨wc.heap.size, 0, none⟩ 1 1 [.int .i64 ((lo.toNat : Nat) : Int), .int .i64 (hi : Int)] rfl rfl HNW.out (by simp [Value.oneCell']) (by decide) (by unfold maxLen; omega) (by omega) HB5.out ?_; intro v6 w6 g1 g2; obtain ⟨N6, S6, h6⟩ := HNX.out w6 v6 g1 g2; have S6 := hide S6; have H6 := hide h6; clear g1 g2 h6)
                  go_roundg (s.length - k2 + 1)
                  case measure => have := H6.out; have := HKE.out; have := HG.out; omega
                  case rel => exact ⟨k2, _, _, rfl, S6, by omega⟩

end Go.Proofs.Ytaiijdnfimclbaa
