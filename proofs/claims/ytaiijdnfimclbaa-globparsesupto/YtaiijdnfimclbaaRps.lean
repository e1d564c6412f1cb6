/-
  The document's Parse by its contract. Condition: the text has at most 2^32 bytes.
-/
import Derived.Test.YtaiijdnfimclbaaDst
import Derived.Test.YtaiijdnfimclbaaMPs
import Derived.Test.YtaiijdnfimclbaaPar
import Derived.Deep.CutBlock
namespace Go.Proofs.Ytaiijdnfimclbaa
open Go.RowKit Go.Lib

/-- The loop of the document's Parse. -/
structure RpS (s : By) (w0 : World) (v : Value) (D : List PD) (k n : Nat) (wr : World) : Prop where
  own : OwnP wr w0.heap.size v D
  le : k ≤ s.length
  fuel : psL n (s.drop k) (D.map PD.p) = parL s
  lt : (s.drop k).length < n
  len : D.length ≤ k
  bel : Below w0.heap.size w0 wr
section
variable {s : By} {w0 : World} {v : Value} {D : List PD} {k n : Nat} {wr : World}
theorem RpS.succ (h : RpS s w0 v D k n wr) : ∃ m, n = m + 1 := ⟨n - 1, by have := h.lt; omega⟩
theorem RpS.nn (h : k < s.length) : ¬ s.drop k = [] := fun e => by have := congrArg List.length e; rw [List.length_drop, List.length_nil] at this; omega
theorem RpS.end' (h : RpS s w0 v D k n wr) (hk : ¬ k < s.length) : parL s = .ok (D.map PD.p) := by
  obtain ⟨m, rfl⟩ := h.succ
  rw [← h.fuel]
  unfold psL
  rw [if_pos (List.drop_eq_nil_of_le (by omega))]
theorem RpS.full (h : RpS s w0 v D k n wr) (hk : k < s.length) (hD : D.length = 64) : parL s = .error (s.drop k) := by
  obtain ⟨m, rfl⟩ := h.succ
  rw [← h.fuel]
  unfold psL
  rw [if_neg (RpS.nn hk), if_pos (by rw [List.length_map]; exact hD)]
theorem RpS.err (h : RpS s w0 v D k n wr) (hk : k < s.length) (hD : ¬ D.length = 64) {t : By} (hp : pcL (s.drop k) = .error t) : parL s = .error t := by
  obtain ⟨m, rfl⟩ := h.succ
  rw [← h.fuel]
  unfold psL
  rw [if_neg (RpS.nn hk), if_neg (by rw [List.length_map]; exact hD), hp]
end
/-- A piece in its box. -/
structure BxS (wr wx : World) (p : Pc) (so : Option Addr) (sc : Nat) : Prop where
  box : wx.heap[wr.heap.size]? = some (.cells #[.int .i64 p.kind, .int .i64 p.b, .bool p.no, .slice so p.set.length sc] 44 (0, 0))
  bel : Below wr.heap.size wr wx
  own : OwnS wx wr.heap.size (.slice so p.set.length sc) p.set
theorem BxS.plain (wr : World) (a b : Int) (no : Bool) : BxS wr (wr.alloc (.cells #[.int .i64 a, .int .i64 b, .bool no, .slice none 0 0] 44)) ⟨a, b, no, []⟩ none 0 :=
  ⟨heap_alloc_new _ _, al (Below.refl _ _) _, OwnS.nil _ _⟩
theorem RpS.next {s : By} {w0 : World} {v : Value} {D : List PD} {k n : Nat} {wr : World} (h : RpS s w0 v D k n wr) (hk : k < s.length) (hD : ¬ D.length = 64) {p : Pc} {t : By} (hp : pcL (s.drop k) = .ok (p, t)) {wx wq : World} {v' : Value} {so : Option Addr} {sc : Nat} (hb : BxS wr wx p so sc)
    (h1 : wq.ownsRow w0.heap.size 44 4 v' (D.length + 1) (pdCells D ++ [.int .i64 p.kind, .int .i64 p.b, .bool p.no, .slice so p.set.length sc])) (h2 : AppAt (wx.alloc (.cells #[.int .i64 p.kind, .int .i64 p.b, .bool p.no, .slice so p.set.length sc] 44)) wq v v') : RpS s w0 v' (D ++ [⟨p, so, sc⟩]) (s.length - t.length) (n - 1) wq ∧ s.length - t.length > k := by
  obtain ⟨m, rfl⟩ := h.succ
  obtain ⟨a1, a2, a3⟩ := pcL_ok hp
  have hts : t <:+ s := a2.trans (List.drop_suffix _ _)
  have ht := suffix_at hts
  have hle := hts.length_le
  have hld : (s.drop k).length = s.length - k := List.length_drop
  have hs0 := h.bel.size
  have X5 : Below wx.heap.size wx (wx.alloc (.cells #[.int .i64 p.kind, .int .i64 p.b, .bool p.no, .slice so p.set.length sc] 44)) := al (Below.refl _ _) _
  obtain ⟨F, hk2, hF⟩ := app_kept h2
  have o5 := (h.own.below hb.bel).below X5
  have hF2 : ∀ i, F i → w0.heap.size ≤ i := fun i hf => (World.ownsRow.lt o5.row i (hF i hf)).1
  refine ⟨⟨o5.push ⟨p, so, sc⟩ ((OwnS.mono hb.own hs0).below X5) (fun e he i hk1 hk3 => ?_) h1 hk2 hF, by omega, ?_, ?_, ?_, ?_⟩, by omega⟩
  · have := (hb.own.lt i hk3).1
    have := ((h.own.sets e he).lt i hk1).2
    omega
  · rw [← h.fuel, ← ht]
    conv => rhs; unfold psL
    rw [if_neg (RpS.nn hk), if_neg (by rw [List.length_map]; exact hD), hp, List.map_append]
    rfl
  · rw [← ht]
    have := h.lt
    simp only [Nat.add_sub_cancel]
    omega
  · have := h.len
    rw [List.length_append, List.length_singleton]
    omega
  · exact ((h.bel.trans (hb.bel.mono hs0)).trans (X5.mono (Nat.le_trans hs0 hb.bel.size))).trans (hk2.below (Nat.le_trans hs0 (Nat.le_trans hb.bel.size X5.size)) (fun i hf => by have := hF2 i hf; omega))

theorem w64_u8 (c : UInt8) : wrap64 ((c.toNat : Nat) : Int) = ((c.toNat : Nat) : Int) := by
  have h : c.toNat < 256 := c.toNat_lt
  have e := IntKind.wrap_i64 (c.toNat : Int)
  simp only [wrap64]
  omega
theorem st_kind {r t : By} {p : Pc} (h : stL r = .ok (p, t)) : p.kind = 3 ∧ p.b = 0 := by
  unfold stL at h
  simp only at h
  split at h
  · cases h
  · injection h with h; injection h with h1 h2; subst h1; exact ⟨rfl, rfl⟩
theorem hl_at {s : By} {k : Nat} (h : k ≤ s.length) : Hid (s.length - (s.drop k).length = k) := len_at h
set_option maxRecDepth 100000 in
set_option maxHeartbeats 16000000 in
theorem refParse_any (s : By) (w : World) (hs : s.length ≤ 4294967296) :
    Calls Try.prog 10 #[.string ⟨s.toArray⟩] w fun e w' => PaIs s w.heap.size (parL s) e w' ∧ Below w.heap.size w w' := by
  obtain ⟨i44, hj, hy0, hy1, hy2⟩ := info_parts Try.info44
  have S0 : Hid (RpS s w (.slice none 0 0) [] 0 (s.length + 1) w) := ⟨OwnP.nil _ _, by omega, rfl, by simp, by simp, Below.refl _ _⟩
  go_enter Try.func10, Try.ntmps10
  go_wp2
  go_loopg [5, 6] (s.length + 1) (fun g v x wr => ∃ (k : Nat) (D : List PD) (n : Nat), x = .int .i64 k ∧ Hid (RpS s w v D k n wr) ∧ s.length - k < g)
  case atStart => exact ⟨0, _, _, rfl, S0, by omega⟩
  case round =>
    obtain ⟨k, D, n, rfl, S, hg⟩ := hrel
    have HG := hide hg
    clear hg S0
    obtain ⟨ao, cap, rfl, _⟩ := own_shape S.out.own.row
    have hkl := S.out.le
    have hDl : D.length ≤ 4294967296 := by have := S.out.len; omega
    by_cases hlt : k < s.length
    · have hlt' : (k : Int) < (s.length : Int) := by omega
      obtain ⟨c, hc⟩ : ∃ c, s[k] = c := ⟨_, rfl⟩
      have hgc : ∀ hk, (⟨s.toArray⟩ : ByteArray)[k]'hk = c := fun _ => hc
      have HC := hide hc
      clear hc
      by_cases hD : D.length = 64
      · have HE := hide (S.out.full hlt hD)
        have hD' : ((D.length : Nat) : Int) = 64 := by omega
        have HQ := hl_at hkl
        have HTS : Hid ((s.drop k).length ≤ s.length) := (List.drop_suffix _ _).length_le
        have XE := hide S.out.bel
        clear hD
        go_wp2
        go_ret3
        refine ⟨?_, XE.out⟩
        rw [HE.out]
        exact ⟨by rw [HQ.out]; rfl, HTS.out⟩
      · have hD' : ¬ ((D.length : Nat) : Int) = 64 := by omega
        have bD : (((D.length : Nat) : Int) == 64) = false := by simp; omega
        cases hpl : plB c with
        | false =>
          have HE := hide (S.out.err hlt hD (pc_np hlt (by rw [HC.out]; exact hpl)))
          have HQ := hl_at hkl
          have HTS : Hid ((s.drop k).length ≤ s.length) := (List.drop_suffix _ _).length_le
          have XE := hide S.out.bel
          have H1 := hide (plain_any c wr)
          rw [hpl] at H1
          clear hpl hD
          go_wp2_with (go_at_call 24; refine H1.out.mono ?_; rintro e w2 ⟨rfl, hw⟩; have hw := hw.symm; subst hw; clear H1)
          go_ret3
          refine ⟨?_, XE.out⟩
          rw [HE.out]
          exact ⟨by rw [HQ.out]; rfl, HTS.out⟩
        | true =>
          have H1 := hide (plain_any c wr)
          rw [hpl] at H1
          have HPL := hide hpl
          clear hpl
          have hwc : wrap64 ((c.toNat : Nat) : Int) = ((c.toNat : Nat) : Int) := w64_u8 c
          have hw1 : IntKind.i64.wrap ((k : Int) + 1) = ((k + 1 : Nat) : Int) := by simp [IntKind.wrap, IntKind.bits, IntKind.signed]; omega
          have hw2 : IntKind.i64.wrap (((k + 1 : Nat) : Int) + 1) = ((k + 2 : Nat) : Int) := by simp [IntKind.wrap, IntKind.bits, IntKind.signed]; omega
          go_upto_block 2 with (go_at_call 24; refine H1.out.mono ?_; rintro e w2 ⟨rfl, hw⟩; have hw := hw.symm; subst hw; clear H1)
          go_cut [8, 9, 10, 11] (fun s8 _ _ _ wx => ∃ (p : Pc) (t : By) (so : Option Addr) (sc k2 : Nat), s8 = .int .i64 (k2 : Nat) ∧ Hid (pcL (s.drop k) = .ok (p, t)) ∧ Hid (s.length - t.length = k2) ∧ Hid (BxS wr wx p so sc))
          case first =>
            by_cases h63 : c = 63
            · have HPC := hide (pc_q hlt (HC.out.trans h63))
              have HL : Hid (s.length - (s.drop (k + 1)).length = k + 1) := hl_at (by omega)
              subst h63
              go_wp2
              go_meet
              exact ⟨⟨2, 0, false, []⟩, _, none, 0, k + 1, rfl, HPC, HL, BxS.plain _ _ _ _⟩
            · have h63' : ¬ (c.toNat : Int) = 63 := fun h => h63 ((u8_int c 63 (by decide)).1 h)
              have n63 : ¬ c.toNat = 63 := by omega
              have b63 : ((c.toNat : Int) == 63) = false := by simp; omega
              by_cases h42 : c = 42
              · by_cases hl1 : k + 1 < s.length
                · have hl1' : ((k + 1 : Nat) : Int) < (s.length : Int) := by omega
                  obtain ⟨d, hd⟩ : ∃ c, s[k + 1] = c := ⟨_, rfl⟩
                  have hgd : ∀ hk, (⟨s.toArray⟩ : ByteArray)[k + 1]'hk = d := fun _ => hd
                  have HB : Hid ([42].isPrefixOf (s.drop (k + 1)) = decide (d = 42)) := by unfold Hid; rw [pre_at hl1, hd]
                  clear hd
                  by_cases d42 : d = 42
                  · have HPC := hide (pc_s2 hlt (HC.out.trans h42) (HB.out.trans (decide_eq_true d42)))
                    have HL : Hid (s.length - (s.drop (k + 2)).length = k + 2) := hl_at (by omega)
                    subst h42 d42
                    go_wp2
                    go_meet
                    exact ⟨⟨5, 0, false, []⟩, _, none, 0, k + 2, rfl, HPC, HL, BxS.plain _ _ _ _⟩
                  · have HPC := hide (pc_s1 hlt (HC.out.trans h42) (HB.out.trans (decide_eq_false d42)))
                    have HL : Hid (s.length - (s.drop (k + 1)).length = k + 1) := hl_at (by omega)
                    have hd' : ¬ (d.toNat : Int) = 42 := fun h => d42 ((u8_int d 42 (by decide)).1 h)
                    have nd : ¬ d.toNat = 42 := by omega
                    have bd : ((d.toNat : Int) == 42) = false := by simp; omega
                    subst h42
                    go_wp2
                    go_meet
                    exact ⟨⟨4, 0, false, []⟩, _, none, 0, k + 1, rfl, HPC, HL, BxS.plain _ _ _ _⟩
                · have hl1' : ¬ ((k + 1 : Nat) : Int) < (s.length : Int) := by omega
                  have HPC := hide (pc_s1 hlt (HC.out.trans h42) (pre_end hl1 42))
                  have HL : Hid (s.length - (s.drop (k + 1)).length = k + 1) := hl_at (by omega)
                  subst h42
                  go_wp2
                  go_meet
                  exact ⟨⟨4, 0, false, []⟩, _, none, 0, k + 1, rfl, HPC, HL, BxS.plain _ _ _ _⟩
              · have h42' : ¬ (c.toNat : Int) = 42 := fun h => h42 ((u8_int c 42 (by decide)).1 h)
                have n42 : ¬ c.toNat = 42 := by omega
                have b42 : ((c.toNat : Int) == 42) = false := by simp; omega
                by_cases h92 : c = 92
                · by_cases hl1 : k + 1 < s.length
                  · have hl1' : ¬ ((k + 1 : Nat) : Int) = (s.length : Int) := by omega
                    have hl1'' : ((k + 1 : Nat) : Int) < (s.length : Int) := by omega
                    have bl1 : ((((k + 1 : Nat) : Int)) == (s.length : Int)) = false := by simp; omega
                    obtain ⟨d, hd⟩ : ∃ c, s[k + 1] = c := ⟨_, rfl⟩
                    have hgd : ∀ hk, (⟨s.toArray⟩ : ByteArray)[k + 1]'hk = d := fun _ => hd
                    have hwd : wrap64 ((d.toNat : Nat) : Int) = ((d.toNat : Nat) : Int) := w64_u8 d
                    have H2 := hide (plain_any d (wr.alloc (.cells #[.int .i64 1, .int .i64 ((92 : UInt8).toNat : Nat), .bool false, .slice none 0 0] 44)))
                    cases hpd : plB d with
                    | false =>
                      have HE := hide (S.out.err hlt hD (pc_b_no hlt (HC.out.trans h92) hl1 (by rw [hd]; exact hpd)))
                      have HQ := hl_at (show k + 1 ≤ s.length by omega)
                      have HTS : Hid ((s.drop (k + 1)).length ≤ s.length) := (List.drop_suffix _ _).length_le
                      have XE : Hid (Below w.heap.size w (wr.alloc (.cells #[.int .i64 1, .int .i64 ((92 : UInt8).toNat : Nat), .bool false, .slice none 0 0] 44))) := S.out.bel.alloc S.out.bel.size _
                      rw [hpd] at H2
                      subst h92
                      clear hpd hd
                      go_wp2_with (go_at_call 24; refine H2.out.mono ?_; rintro e w3 ⟨rfl, hw⟩; have hw := hw.symm; subst hw; clear H2)
                      go_ret3
                      refine ⟨?_, XE.out⟩
                      rw [HE.out]
                      exact ⟨by rw [HQ.out]; rfl, HTS.out⟩
                    | true =>
                      have HPC := hide (pc_b_ok hlt (HC.out.trans h92) hl1 (by rw [hd]; exact hpd))
                      simp only [hd] at HPC
                      have HL : Hid (s.length - (s.drop (k + 2)).length = k + 2) := hl_at (by omega)
                      rw [hpd] at H2
                      subst h92
                      clear hpd hd
                      go_wp2_with (go_at_call 24; refine H2.out.mono ?_; rintro e w3 ⟨rfl, hw⟩; have hw := hw.symm; subst hw; clear H2)
                      go_meet
                      exact ⟨⟨1, ((d.toNat : Nat) : Int), false, []⟩, _, none, 0, k + 2, rfl, HPC, HL, BxS.plain _ _ _ _⟩
                  · have hl1' : ((k + 1 : Nat) : Int) = (s.length : Int) := by omega
                    have bl1 : ((((k + 1 : Nat) : Int)) == (s.length : Int)) = true := by simp; omega
                    have HE := hide (S.out.err hlt hD (pc_b_end hlt (HC.out.trans h92) hl1))
                    have HQ : Hid (s.length - (s.drop (k + 1)).length = s.length) := by unfold Hid; rw [List.length_drop]; omega
                    have HTS : Hid ((s.drop (k + 1)).length ≤ s.length) := (List.drop_suffix _ _).length_le
                    have XE : Hid (Below w.heap.size w (wr.alloc (.cells #[.int .i64 1, .int .i64 ((92 : UInt8).toNat : Nat), .bool false, .slice none 0 0] 44))) := S.out.bel.alloc S.out.bel.size _
                    subst h92
                    go_wp2
                    go_ret3
                    refine ⟨?_, XE.out⟩
                    rw [HE.out]
                    exact ⟨by rw [HQ.out]; rfl, HTS.out⟩
                · have h92' : ¬ (c.toNat : Int) = 92 := fun h => h92 ((u8_int c 92 (by decide)).1 h)
                  have n92 : ¬ c.toNat = 92 := by omega
                  have b92 : ((c.toNat : Int) == 92) = false := by simp; omega
                  by_cases h91 : c = 91
                  · have HPC := hide (pc_set hlt (HC.out.trans h91))
                    have H3 := hide (refSet_any s k (wr.alloc (.cells #[.int .i64 1, .int .i64 ((91 : UInt8).toNat : Nat), .bool false, .slice none 0 0] 44)) hs hlt)
                    have B0 : Hid ((wr.alloc (.cells #[.int .i64 1, .int .i64 ((91 : UInt8).toNat : Nat), .bool false, .slice none 0 0] 44)).heap[wr.heap.size]? = some (.cells #[.int .i64 1, .int .i64 ((91 : UInt8).toNat : Nat), .bool false, .slice none 0 0] 44 (0, 0))) := heap_alloc_new _ _
                    have HWB : Hid ((wr.alloc (.cells #[.int .i64 1, .int .i64 ((91 : UInt8).toNat : Nat), .bool false, .slice none 0 0] 44)).heap.size = wr.heap.size + 1) := by simp [Hid]
                    have X0 : Hid (Below wr.heap.size wr (wr.alloc (.cells #[.int .i64 1, .int .i64 ((91 : UInt8).toNat : Nat), .bool false, .slice none 0 0] 44))) := al (Below.refl _ _) _
                    subst h91
                    clear h63 h42 h92
                    go_wp2_with (fail)
                    refine H3.out.mono ?_
                    clear H3
                    rintro e w3 ⟨h3, x3⟩
                    generalize (wr.alloc (.cells #[.int .i64 1, .int .i64 ((91 : UInt8).toNat : Nat), .bool false, .slice none 0 0] 44)) = wb at *
                    have hn3 := x3.size
                    have hwb := HWB.out
                    rcases h3 with ⟨p, t, so, sc, hR, rfl, o3⟩ | ⟨t, no, hR, rfl⟩
                    · obtain ⟨hpk, hpb⟩ := st_kind hR
                      have hnn : ¬ ((s.length - t.length : Nat) : Int) < 0 := by omega
                      have B3 := (x3.block _ (by omega)).trans B0.out
                      have X4 : Below w3.heap.size w3 (w3.alloc (.cells #[.int .i64 3, .int .i64 0, .bool p.no, .slice so p.set.length sc] 44)) := al (Below.refl _ _) _
                      have B4 := (X4.block _ (lt_of_block B3)).trans B3
                      obtain ⟨c0, f0, c1, f1, c2, f2, c3, f3, B6, k6⟩ := st4 B4 (.int .i64 3) (.int .i64 0) (.bool p.no) (.slice so p.set.length sc)
                      have HO := hide (ownS_mono (b := wr.heap.size) (own_kept2 (o3.below X4) k6 (by omega)) (by omega))
                      have HX := hide (((X0.out.trans (x3.mono (by omega))).trans (X4.mono (by omega))).trans (k6.below (by have := X4.size; omega) (fun i hi => by omega)))
                      have HB6 : Hid (BxS wr _ p so sc) := ⟨by rw [hpk, hpb]; exact B6, HX.out, HO.out⟩
                      have HPC2 := hide (HPC.out.trans hR)
                      clear B3 X4 B4 B6 k6 HO HX hR hpk hpb o3 x3 HPC hn3 hwb
                      go_wp2
                      go_meet
                      exact ⟨p, t, so, sc, _, rfl, HPC2, rfl, HB6⟩
                    · have HE := hide (S.out.err hlt hD (HPC.out.trans hR))
                      have hneg : ((-1 : Int)) < 0 := by decide
                      have HTS : Hid (t.length ≤ s.length) := Nat.le_trans (stL_err hR).length_le (by rw [List.length_drop]; omega)
                      have XE : Hid (Below w.heap.size w (w3.alloc (.cells #[.int .i64 3, .int .i64 0, .bool no, .slice none 0 0] 44))) := (S.out.bel.trans ((X0.out.trans (x3.mono (by omega))).mono S.out.bel.size)).alloc (by have := S.out.bel.size; omega) _
                      clear hR x3 HPC hn3 hwb
                      go_wp2
                      go_ret3
                      refine ⟨?_, XE.out⟩
                      rw [HE.out]
                      exact ⟨rfl, HTS.out⟩
                  · have h91' : ¬ (c.toNat : Int) = 91 := fun h => h91 ((u8_int c 91 (by decide)).1 h)
                    have n91 : ¬ c.toNat = 91 := by omega
                    have b91 : ((c.toNat : Int) == 91) = false := by simp; omega
                    have HPC := hide (pc_y hlt (by rw [HC.out]; exact HPL.out) (fun h => h63 (HC.out.symm.trans h)) (fun h => h42 (HC.out.symm.trans h)) (fun h => h92 (HC.out.symm.trans h)) (fun h => h91 (HC.out.symm.trans h)))
                    rw [HC.out] at HPC
                    have HL : Hid (s.length - (s.drop (k + 1)).length = k + 1) := hl_at (by omega)
                    clear h63 h42 h92 h91
                    go_wp2
                    go_meet
                    exact ⟨⟨1, ((c.toNat : Nat) : Int), false, []⟩, _, none, 0, k + 1, rfl, HPC, HL, BxS.plain _ _ _ _⟩
          case rest =>
            obtain ⟨p, t, so, sc, k2, rfl, HPC, HK2, BX⟩ := hcut
            obtain ⟨d0, d1, d2, d3⟩ := cells4 BX.out.box
            have HNX : Hid (∀ wq v', wq.ownsRow w.heap.size 44 4 v' (D.length + 1) (pdCells D ++ [.int .i64 p.kind, .int .i64 p.b, .bool p.no, .slice so p.set.length sc]) → AppAt (wc.alloc (.cells #[.int .i64 p.kind, .int .i64 p.b, .bool p.no, .slice so p.set.length sc] 44)) wq (.slice ao D.length cap) v' → RpS s w v' (D ++ [⟨p, so, sc⟩]) k2 (n - 1) wq ∧ k2 > k) := fun wq v' h1 h2 => by
              rw [← HK2.out]
              exact S.out.next hlt hD HPC.out BX.out h1 h2
            have O5 : Hid ((wc.alloc (.cells #[.int .i64 p.kind, .int .i64 p.b, .bool p.no, .slice so p.set.length sc] 44)).ownsRow w.heap.size 44 4 (.slice ao D.length cap) D.length (pdCells D)) := ((S.out.own.below BX.out.bel).below (al (Below.refl _ _) _)).row
            have HN : Hid (∀ j u, ([.int .i64 p.kind, .int .i64 p.b, .bool p.no, .slice so p.set.length sc] : List Value)[j]? = some u → (wc.alloc (.cells #[.int .i64 p.kind, .int .i64 p.b, .bool p.no, .slice so p.set.length sc] 44)).cell? ((⟨wc.heap.size, 0, none⟩ : Addr).add j) = some u) := by
              intro j u hu
              match j, hu with
              | 0, hu => simp at hu; subst hu; simp [Addr.add]
              | 1, hu => simp at hu; subst hu; simp [Addr.add]
              | 2, hu => simp at hu; subst hu; simp [Addr.add]
              | 3, hu => simp at hu; subst hu; simp [Addr.add]
            have HB5 : Hid (w.heap.size ≤ (wc.alloc (.cells #[.int .i64 p.kind, .int .i64 p.b, .bool p.no, .slice so p.set.length sc] 44)).heap.size) := by have := S.out.bel.size; have := BX.out.bel.size; simp [Hid]; omega
            have HKE : Hid (k2 ≤ s.length) := by unfold Hid; rw [← HK2.out]; exact Nat.sub_le _ _
            clear HPC HK2
            go_wp2_with (at_builtin; refine wpList_append_view rfl (.tmp 91) (.tmp 93) 29 rfl w.heap.size 44 i44 (.agg #[.int .i64 0, .int .i64 0, .bool false, .slice none 0 0]) 4 48 Try.underlying29 hj hy0 hy1 hy2 rfl (by decide) _ D.length (pdCells D) rfl O5.out ⟨wc.heap.size, 0, none⟩ 1 1 [.int .i64 p.kind, .int .i64 p.b, .bool p.no, .slice so p.set.length sc] rfl rfl HN.out (by simp [Value.oneCell']) (by decide) (by unfold maxLen; omega) (by omega) HB5.out ?_; intro v6 w6 h1 h2; obtain ⟨S6, h6⟩ := HNX.out _ _ h1 h2; have S6 := hide S6; have H6 := hide h6; clear h1 h2 h6)
            go_roundg (s.length - k2 + 1)
            case measure => have := H6.out; have := HKE.out; have := HG.out; omega
            case rel => exact ⟨k2, _, _, rfl, S6, by omega⟩
    · have hlt' : ¬ (k : Int) < (s.length : Int) := by omega
      have HEN := hide (S.out.end' hlt)
      go_wp2
      go_ret3
      refine ⟨?_, S.out.bel⟩
      rw [HEN.out]
      exact ⟨_, D, rfl, S.out.own, rfl⟩
end Go.Proofs.Ytaiijdnfimclbaa
