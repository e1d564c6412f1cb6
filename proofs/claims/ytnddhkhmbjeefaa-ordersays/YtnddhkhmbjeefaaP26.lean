/-
  readRow by its contract. Condition: a ref of the arena that is not above the level; fewer than 100000 refs.
-/
import Derived.Test.YtnddhkhmbjeefaaP25
import Derived.Test.YtnddhkhmbjeefaaP10
import Derived.Test.YtnddhkhmbjeefaaP06
import Derived.Test.YtnddhkhmbjeefaaP12
namespace Go.Proofs.Ytnddhkhmbjeefaa
open Go.RowKit Go.Lib Go.Maps

/-- Where a ref leads by a level's classes. -/
def kidsN (S : List Int) (N : List Nd) (l : Nat) (f : Int) : List Int := if lvl S N f = (l : Int) then (N.getD (f - 2).toNat (0, [])).2 else [f]
def adds (Q ks : List Int) : List Int := ks.foldl plc Q
theorem adds_snoc (Q ks : List Int) (x : Int) : adds Q (ks ++ [x]) = plc (adds Q ks) x := by unfold adds; rw [List.foldl_append]; rfl
theorem adds_ext : ∀ (ks Q : List Int), ∃ U, adds Q ks = Q ++ U ∧ U.length ≤ ks.length ∧ ∀ y ∈ U, y ∈ ks
  | [], Q => ⟨[], by simp [adds], Nat.le_refl _, by simp⟩
  | x :: ks, Q => by
    obtain ⟨U, h1, h2, h3⟩ := adds_ext ks (plc Q x)
    unfold adds at h1 ⊢
    rw [List.foldl_cons, h1]
    unfold plc
    split
    · exact ⟨U, rfl, by simp; omega, fun y hy => List.mem_cons_of_mem _ (h3 y hy)⟩
    · refine ⟨x :: U, by simp, by simp; omega, fun y hy => ?_⟩
      rcases List.mem_cons.1 hy with rfl | hy
      · exact List.mem_cons_self
      · exact List.mem_cons_of_mem _ (h3 y hy)
theorem adds_take {ks Q : List Int} {k : Nat} (h : k < ks.length) : adds Q (ks.take (k + 1)) = plc (adds Q (ks.take k)) ks[k] := by
  rw [← adds_snoc]
  congr 1
  rw [List.take_succ_eq_append_getElem h]
/-- What readRow leaves. -/
def RrL (S : List Int) (N : List Nd) (l s : Nat) (f : Int) (r : Nat) (Q : List Int) (P : Nat → Prop) (w : World) (en : Ending) (w' : World) : Prop :=
  ∃ (h : Nat → Int) (g c : Nat) (P' : Nat → Prop), en = .returned (.slice (some ⟨g, 0, none⟩) (rlN h s).length c) ∧ RwB w' g (rlN h s) ∧ w.heap.size ≤ g ∧ (rlN h s).length ≤ c ∧ c ≤ maxLen ∧ RfAt w' r (adds Q (kidsN S N l f)) P' ∧ Kept P w w' ∧ (∀ k, P' k → P k ∨ w.heap.size ≤ k) ∧ ∀ j, j < s → 0 ≤ h j ∧ (adds Q (kidsN S N l f))[(h j).toNat]? = some (kidR S N l f j)
section
variable {w : World} {a : Nat} {S : List Int} {M : Int} {N : List Nd} {m : Nat} {P PA : Nat → Prop} {r l s : Nat} {Q : List Int} {f : Int}
set_option maxRecDepth 100000 in
set_option maxHeartbeats 4000000 in
theorem readRow_self (hA : CA w a S M N m PA) (hq : RfAt w r Q P) (hf : 0 ≤ f ∧ f ≤ 4294967296) (hl : Q.length < 100000) (hs0 : 0 < s) (hs1 : s ≤ 256) (hne : lvl S N f ≠ (l : Int)) :
    Calls Try.prog 56 #[.pointer (some ⟨a, 0, none⟩), .int .i64 f, .int .i64 (l : Int), .int .i64 (s : Int), .pointer (some ⟨r, 0, none⟩)] w fun e w' => RrL S N l s f r Q P w e w' := by
  have HL := hide (hA.level f)
  have HP := hide (hq.place hf (by omega))
  have HK : Hid (kidsN S N l f = [f] ∧ ∀ c, kidR S N l f c = f) := ⟨by unfold kidsN; rw [if_neg hne], fun c => kidR_self hne⟩
  have HS := hide (And.intro hs0 hs1)
  have e1 : IntKind.i32.wrap (s : Int) = (s : Int) := by simp [IntKind.wrap, IntKind.bits, IntKind.signed]; omega
  clear hA hq hf hl hs0 hs1
  generalize lvl S N f = lf at *
  go_enter Try.func56, Try.ntmps56
  go_wp2_with (first | (go_at_call 24; refine HL.out.mono ?_; rintro en w1 ⟨rfl, hw1⟩; subst hw1) | (go_at_call 55; refine HP.out.mono ?_; rintro en w2 ⟨i, rfl, hi, P', hr, hk, hn⟩; have HI := hide hi; have HR := hide hr; have HKP := hide hk; have HN := hide hn; clear hi hr hk hn))
  go_ret
  have x3 : Below w2.heap.size w2 (w2.alloc (.cells #[.int .i32 (s : Int), .int .i32 (i : Int)] 134)) := al (Below.refl _ _) _
  have b3 := heap_alloc_new w2 (.cells #[.int .i32 (s : Int), .int .i32 (i : Int)] 134)
  have er : rlN (fun _ => (i : Int)) s = [((s : Int), (i : Int))] := rlN_const (f := fun _ => (i : Int)) (fun _ _ => rfl) HS.out.1
  have rb : RwB (w2.alloc (.cells #[.int .i32 (s : Int), .int .i32 (i : Int)] 134)) w2.heap.size [((s : Int), (i : Int))] := ⟨_, b3, fun j hj => by
    have : j = 0 := by simpa using hj
    subst this
    exact ⟨rfl, rfl⟩⟩
  refine ⟨fun _ => (i : Int), w2.heap.size, 1, P', by rw [er]; rfl, by rw [er]; exact rb, HKP.out.size, by rw [er]; exact Nat.le_refl _, by unfold maxLen; omega, ?_, HKP.out.trans (Kept.of_below x3), HN.out, fun j hj => ?_⟩
  · rw [HK.out.1]
    exact HR.out.below x3
  · refine ⟨Int.natCast_nonneg i, ?_⟩
    rw [HK.out.1, HK.out.2]
    exact HI.out
/-- What the loop of readRow keeps. -/
structure RrI (ks : List Int) (r : Nat) (Q : List Int) (P : Nat → Prop) (w1 wr : World) (n k : Nat) (v : Value) (h : Nat → Int) (P' : Nat → Prop) : Prop where
  ow : wr.ownsRow n 134 2 v (rlN h k).length (rnC (rlN h k))
  rf : RfAt wr r (adds Q (ks.take k)) P'
  kp : Kept P w1 wr
  pn : ∀ z, P' z → P z ∨ w1.heap.size ≤ z
  vn : ∀ z, v.ownBlock = some z → w1.heap.size ≤ z
  at_ : ∀ j (hj : j < ks.length), j < k → 0 ≤ h j ∧ (adds Q (ks.take k))[(h j).toNat]? = some ks[j]
set_option maxRecDepth 100000 in
set_option maxHeartbeats 4000000 in
theorem readRow_node (hA : CA w a S M N m PA) (hq : RfAt w r Q P) (hf : hasR N f) (hl : Q.length < 100000) (hls : l < S.length) (hs : (s : Int) = S.getD l 0) (he : lvl S N f = (l : Int)) :
    Calls Try.prog 56 #[.pointer (some ⟨a, 0, none⟩), .int .i64 f, .int .i64 (l : Int), .int .i64 (s : Int), .pointer (some ⟨r, 0, none⟩)] w fun e w' => RrL S N l s f r Q P w e w' := by
  have HL := hide (hA.level f)
  have HNC := hide (hA.node f)
  obtain ⟨R, sb, sc, nv, mb, hx, hN⟩ := hA
  have ok := hx.ok
  rw [hN] at ok
  obtain ⟨hf2, ks, hnd⟩ := ok.node_of_lvl hf he hls
  have hkl : ks.length = s := by have := hnd.len; omega
  have hsz := ok.sz.each (S.getD l 0) (by rw [List.getD_eq_getElem?_getD, List.getElem?_eq_getElem hls]; exact List.getElem_mem _)
  have hs0 : 0 < s := by omega
  have hs1 : s ≤ 256 := by omega
  have HKB : Hid (∀ j (h : j < ks.length), 0 ≤ ks[j] ∧ ks[j] ≤ 4294967296) := fun j hj => by
    obtain ⟨k1, k2, _⟩ := hnd.kid j hj
    rw [List.getD_eq_getElem?_getD, List.getElem?_eq_getElem hj] at k1 k2
    simp only [Option.getD_some] at k1 k2
    have := hf.2
    have := ok.few
    have := ok.m1
    exact ⟨k1, by omega⟩
  have HK : Hid (kidsN S N l f = ks ∧ ∀ j (h : j < ks.length), kidR S N l f j = ks[j]) := ⟨by
    unfold kidsN
    rw [if_pos he, List.getD_eq_getElem?_getD, hnd.at_]
    rfl, fun j hj => by rw [kidR_node hnd, List.getD_eq_getElem?_getD, List.getElem?_eq_getElem hj]; rfl⟩
  have HAT := hide hnd.at_
  have HHAS := hide (And.intro hf2 hf.2)
  have HQ := hide hq
  have HQL := hide hl
  clear hx hN ok hnd hsz hq hf hl hls hs hf2
  subst hkl
  generalize hlf : lvl S N f = lf at *
  subst he
  have HLF := hide hlf
  clear hlf
  go_enter Try.func56, Try.ntmps56
  go_upto_region 4 with (first | (go_at_call 24; refine HL.out.mono ?_; rintro en w1 ⟨rfl, hw1⟩; subst hw1) | (go_at_call 45; refine HNC.out.mono ?_; rintro en w2 ⟨hor, hb2⟩; obtain ⟨g, cg, rfl, hg1, hg2⟩ : ∃ g cg, en = .returned (.tuple #[.agg #[.int .i64 (l : Int), .slice (some ⟨g, 0, none⟩) ks.length cg], .int .i64 0]) ∧ ZBk w2 g ks ∧ w1.heap.size ≤ g := (by rcases hor with ⟨i, lv, ks', g, c, h1, h2, h3, h4, h5, h6⟩ | ⟨h1, _⟩; (have e : (f - 2).toNat = i := (by omega); have h7 := HAT.out; rw [e, h1] at h7; obtain ⟨rfl, rfl⟩ := Prod.mk.inj (Option.some.inj h7); exact ⟨g, c, h3, h5, h6⟩); (exact absurd HHAS.out h1)); have HG := hide (And.intro hg1 hg2); have HB2 := hide hb2; clear hor hg1 hg2 hb2))
  have X3 : Hid (Below w2.heap.size w2 (w2.alloc (.cells #[.int .i64 (l : Int), .slice (some ⟨g, 0, none⟩) ks.length cg] 86))) := al (Below.refl _ _) _
  have c1 : (w2.alloc (.cells #[.int .i64 (l : Int), .slice (some ⟨g, 0, none⟩) ks.length cg] 86)).cell? ⟨w2.heap.size, 1, none⟩ = some (.slice (some ⟨g, 0, none⟩) ks.length cg) := by rw [cell_of_row _ _ _ _ _ _ (heap_alloc_new w2 _)]; rfl
  have Z3 := hide (HG.out.1.below X3.out)
  have B3 := hide (bt HB2.out X3.out (Nat.le_refl _))
  have GL : Hid (w1.heap.size ≤ g ∧ g < w2.heap.size) := ⟨HG.out.2, HG.out.1.lt⟩
  have SZ := hide X3.out.size
  clear X3 HB2 HG HL HNC
  generalize w2.alloc (.cells #[.int .i64 (l : Int), .slice (some ⟨g, 0, none⟩) ks.length cg] 86) = w3 at *
  generalize w2.heap.size = nb at *
  have GLT := hide Z3.out.lt
  have ST : Hid (RrI ks r Q P w3 w3 w1.heap.size 0 (.slice none 0 0) (fun _ => 0) P) := ⟨World.ownsRow_nil _ _ _ _, by simpa [adds] using HQ.out.below B3.out, Kept.refl _ _, fun z hz => .inl hz, fun z hz => (by cases hz), fun j hj hk => (by omega)⟩
  go_wp2
  go_loopw [13, 37] (fun v13 v37 wr => ∃ k : Nat, k ≤ ks.length ∧ v37 = .int .i64 (k : Int) ∧ ∃ ca cn cc, v13 = .slice ca cn cc ∧ ∃ h P', Hid (RrI ks r Q P w3 wr w1.heap.size k (.slice ca cn cc) h P')) (fun _ v _ => ks.length - (RowKit.intOf v).toNat)
  case atStart => exact ⟨0, Nat.zero_le _, rfl, none, 0, 0, rfl, _, P, ST⟩
  case round =>
    obtain ⟨k, hk, rfl, ca, cn, cc, rfl, h, P', RI⟩ := hrel
    clear ST c1
    by_cases hlk : k < ks.length
    · have hlk' : (k : Int) < (ks.length : Int) := by omega
      have NPG : Hid (¬ P g) := fun hp => by
        obtain ⟨_, _, hX⟩ := HQ.out
        have := hX.plt g hp
        have := GL.out.1
        omega
      have q1 := (Z3.out.kept RI.out.kp NPG.out).cell hlk
      rw [show ks.getD k 0 = ks[k] by rw [List.getD_eq_getElem?_getD, List.getElem?_eq_getElem hlk]; rfl] at q1
      have e1 : IntKind.i32.wrap (IntKind.i64.wrap ((k : Int) + 1)) = ((k : Int) + 1) := by simp [IntKind.wrap, IntKind.bits, IntKind.signed]; omega
      have hU : (adds Q (ks.take k)).length < 1073741824 := by
        obtain ⟨U, h1, h2, _⟩ := adds_ext (ks.take k) Q
        have := HQL.out
        rw [h1, List.length_append]
        rw [List.length_take] at h2
        omega
      have HPL := hide (RI.out.rf.place (HKB.out k hlk) hU)
      clear hU
      have HRL : Hid ((rlN h k).length ≤ 65536) := by have := rlN_len h k; unfold Hid; omega
      have SW := hide (Nat.le_trans B3.out.size RI.out.kp.size)
      go_wp2_with (first | (go_at_call 55; go_loud (refine HPL.out.mono ?_; rintro en w4 ⟨i, rfl, hi, P4, hr4, hk4, hn4⟩; have HI := hide hi; have HR4 := hide hr4; have HK4 := hide hk4; have HN4 := hide hn4; have NV : Hid (∀ z, (Value.slice ca cn cc).ownBlock = some z → ¬ P' z) := (fun z hz hp => (by obtain ⟨cs', h5⟩ := own_ty RI.out.ow _ hz; obtain ⟨_, _, hX⟩ := RI.out.rf; exact hX.nr z hp _ h5)); have OW4 := hide (own_kept RI.out.ow hk4 NV.out); have S4 := hide (Nat.le_trans SW.out hk4.size); clear hi hr4 hk4 hn4)) | (go_at_call 73; go_loud (refine (join_any ((k : Int) + 1) (i : Int) OW4.out HRL.out S4.out).mono ?_; rintro en w5 ⟨v5, rfl, o5, g5⟩; obtain ⟨ca5, cc5, rfl, -⟩ := own_shape o5; have OW5 := hide o5; have G5 := hide g5; clear o5 g5)))
      go_roundw
      case rel =>
        have ej : joinR (rlN h k) ((k : Int) + 1) (i : Int) = rlN (fun j => if j = k then (i : Int) else h j) (k + 1) := by
          have e2 : rlN (fun j => if j = k then (i : Int) else h j) k = rlN h k := rlN_congr k (fun j hj => if_neg (by omega))
          show _ = joinR (rlN (fun j => if j = k then (i : Int) else h j) k) _ _
          rw [e2]
          simp
        have OW6 := OW5.out
        generalize hgl : (Value.slice ca5 (joinR (rlN h k) ((k : Int) + 1) (i : Int)).length cc5) = v6 at OW6
        rw [ej] at OW6
        subst hgl
        have NP4 : ∀ z, P4 z → ¬ (Value.slice ca cn cc).ownBlock = some z := fun z hp hz => by
          obtain ⟨cs', h5⟩ := own_ty OW4.out _ hz
          obtain ⟨_, _, hX⟩ := HR4.out
          exact hX.nr z hp _ h5
        refine ⟨k + 1, by omega, by go_num, _, _, _, rfl, _, P4, hide ⟨OW6, ?_, ?_, fun z hz => ?_, fun z hz => ?_, fun j hj hjk => ?_⟩⟩
        · rw [adds_take hlk]
          exact HR4.out.kept G5.out.1 NP4
        · refine (RI.out.kp.trans_new HK4.out (fun z hz hp => ?_)).trans_new G5.out.1 (fun z hz hp => ?_)
          · exact (RI.out.pn z hp).resolve_right (by omega)
          · exact absurd (RI.out.vn z hp) (by omega)
        · rcases HN4.out z hz with h1 | h1
          · exact RI.out.pn z h1
          · exact .inr (Nat.le_trans RI.out.kp.size h1)
        · rcases G5.out.2 z hz with h1 | h1
          · exact RI.out.vn z h1
          · exact Nat.le_trans (Nat.le_trans RI.out.kp.size HK4.out.size) h1
        · rw [adds_take hlk]
          by_cases e : j = k
          · subst e
            simp only [↓reduceIte]
            exact ⟨Int.natCast_nonneg i, HI.out⟩
          · simp only [if_neg e]
            obtain ⟨h1, h2⟩ := RI.out.at_ j hj (by omega)
            obtain ⟨U, hu, _⟩ := plc_ext (adds Q (ks.take k)) ks[k]
            refine ⟨h1, ?_⟩
            rw [hu]
            have hlt : (h j).toNat < (adds Q (ks.take k)).length := by
              rcases Nat.lt_or_ge (h j).toNat (adds Q (ks.take k)).length with h3 | h3
              · exact h3
              · rw [List.getElem?_eq_none h3] at h2; cases h2
            rw [List.getElem?_append_left hlt]
            exact h2
      case measure => simp [RowKit.intOf]; omega
    · have hlk' : ¬ (k : Int) < (ks.length : Int) := by omega
      obtain rfl : k = ks.length := by omega
      go_wp2
      go_ret
      obtain ⟨g1, c1, hv, hg, hr, h1, h2⟩ := RwB.of_own RI.out.ow (rlN_pos _ hs0)
      injection hv with hv1 hv2 hv3
      subst hv1 hv2 hv3
      refine ⟨h, g1, _, P', rfl, hr, hg, h1, h2, ?_, (Kept.of_below B3.out).trans RI.out.kp, fun z hz => ?_, fun j hj => ?_⟩
      · rw [HK.out.1]
        have := RI.out.rf
        rw [List.take_length] at this
        exact this
      · exact (RI.out.pn z hz).imp id (fun h3 => Nat.le_trans B3.out.size h3)
      · have := RI.out.at_ j hj hj
        rw [List.take_length] at this
        rw [HK.out.1, HK.out.2 j hj]
        exact this
/-- readRow. -/
theorem readRow_any (hA : CA w a S M N m PA) (hq : RfAt w r Q P) (hf : hasR N f) (hl : Q.length < 100000) (hls : l < S.length) (hs : (s : Int) = S.getD l 0) :
    Calls Try.prog 56 #[.pointer (some ⟨a, 0, none⟩), .int .i64 f, .int .i64 (l : Int), .int .i64 (s : Int), .pointer (some ⟨r, 0, none⟩)] w fun e w' => RrL S N l s f r Q P w e w' := by
  by_cases he : lvl S N f = (l : Int)
  · exact readRow_node hA hq hf hl hls hs he
  · obtain ⟨R, sb, sc, nv, mb, hx, hN⟩ := id hA
    have ok := hx.ok
    rw [hN] at ok
    have hsz := ok.sz.each (S.getD l 0) (by rw [List.getD_eq_getElem?_getD, List.getElem?_eq_getElem hls]; exact List.getElem_mem _)
    have := hf.2
    have := ok.few
    have := ok.m1
    exact readRow_self hA hq ⟨hf.1, by omega⟩ hl (by omega) (by omega) he
end
end Go.Proofs.Ytnddhkhmbjeefaa
