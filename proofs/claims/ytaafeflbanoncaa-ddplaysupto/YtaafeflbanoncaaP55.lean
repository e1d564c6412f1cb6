/-
  DdPlays by its contract. Condition: what came in has at most so many values as the form's bulk.
-/
import Derived.Test.YtaafeflbanoncaaP49
import Derived.Test.YtaafeflbanoncaaP50
import Derived.Test.YtaafeflbanoncaaP52
import Derived.Test.YtaafeflbanoncaaP53
import Derived.Test.YtaafeflbanoncaaP54
namespace Go.Proofs.Ytaafeflbanoncaa
open Go.RowKit Go.Lib Go.Maps

theorem newD_openP (ao : Option Addr) (cap : Nat) (A : List Int) (M : Int) (w : World) (hl : A.length ≤ 140737488351232) (hz : ZAt w ao A) :
    Calls Try.prog 8 #[.slice ao A.length cap, .int .i64 M] w fun e w' => ((SzOk A ∧ 0 ≤ M ∧ M ≤ 8192 ∧ ∃ x P, e = .returned (.tuple #[.pointer (some ⟨x, 0, none⟩), .int .i64 0]) ∧ RA w' x A M [] P ∧ ∀ k, P k → w.heap.size ≤ k) ∨ (¬ (SzOk A ∧ 0 ≤ M ∧ M ≤ 8192) ∧ e = .returned (.tuple #[.pointer none, .int .i64 1]))) ∧ Below w.heap.size w w' := newD_any ao cap A M w hl hz
theorem ZAt.keptZ {F : Nat → Prop} {w w' : World} {ao : Option Addr} {L : List Int} (h : ZAt w ao L) (hk : Kept F w w') (hF : ∀ b off, ao = some ⟨b, off, none⟩ → L ≠ [] → ¬ F b) : ZAt w' ao L := by
  by_cases h0 : L = []
  · exact .inl h0
  rcases h with h | ⟨b, off, e, h1, h2⟩
  · exact .inl h
  · exact .inr ⟨b, off, e, Nat.lt_of_lt_of_le h1 hk.size, fun i hi => (hk.cell (p := ⟨b, off + i, none⟩) h1 (hF b off e h0)).trans (h2 i hi)⟩
/-- A step as it is played. -/
structure OpGn (w : World) (z : OpZ) (IN : List Bool) (CS : List Int) (P Q : Nat → Prop) : Prop where
  fc : Fit z.c
  il : z.il = IN.length
  ia : BAt w z.ia IN
  ile : IN.length ≤ 140737488351232
  cl : z.cl = CS.length
  ca : ZAt w z.ca CS
  cle : CS.length ≤ 16000000
  fr : ∀ b off, z.ia = some ⟨b, off, none⟩ → IN ≠ [] → ¬ P b ∧ ¬ Q b
theorem OpGn.below {w w' : World} {z : OpZ} {IN : List Bool} {CS : List Int} {P Q : Nat → Prop} (h : OpGn w z IN CS P Q) (y : Below w.heap.size w w') : OpGn w' z IN CS P Q := ⟨h.fc, h.il, h.ia.below y, h.ile, h.cl, h.ca.below y, h.cle, h.fr⟩
set_option maxRecDepth 100000 in
set_option maxHeartbeats 8000000 in
theorem ddPlays_any (a0 so : Option Addr) (cap0 cap1 : Nat) (A : List Int) (T : List OpX) (M : Int) (w : World) (hA : A.length ≤ 1048576) (hT : T.length ≤ 1048576) (zA : ZAt w a0 A) (sT : OpAtX w so T) (hCS : ∀ o ∈ T, o.CS.length ≤ 1048576) :
    Calls Try.prog 3 #[.slice a0 A.length cap0, .int .i64 M, .slice so T.length cap1] w fun e w' => e = .returned (.bool true) ∧ Below w.heap.size w w' := by
  have KN := hide (known_any w)
  have HZ := hide zA
  have HST := hide sT
  have HCS := hide hCS
  have NC := hide (fun W (y : Below w.heap.size w W) => new_any a0 cap0 A M W (by omega) (zA.below y))
  have ND := hide (fun W (y : Below w.heap.size w W) => newD_openP a0 cap0 A M W (by omega) (zA.below y))
  clear zA sT hCS
  by_cases hok : SzOk A ∧ 0 ≤ M ∧ M ≤ 8192
  rotate_left
  · have HNO := hide hok
    clear hok
    go_enter Try.func3, Try.ntmps3
    go_upto_region 2 with (go_at_call 6; refine KN.out.mono ?_; rintro e w1 ⟨rfl, x1⟩; have X1 := hide x1; clear x1)
    clear KN
    have N1 := hide (NC.out _ X1.out)
    go_upto_region 3 with (go_at_call 7; refine N1.out.mono ?_; rintro e w2 ⟨⟨h1, h2, h3, _⟩ | ⟨_, rfl⟩, hb⟩; (exact absurd ⟨h1, h2, h3⟩ HNO.out); have X2 := hide (bt X1.out hb (Nat.le_refl _)); clear hb)
    clear N1
    have N2 := hide (ND.out _ X2.out)
    go_wp2_with (go_at_call 8; refine N2.out.mono ?_; rintro e w3 ⟨⟨h1, h2, h3, _⟩ | ⟨_, rfl⟩, hb⟩; (exact absurd ⟨h1, h2, h3⟩ HNO.out); have X3 := hide (bt X2.out hb (Nat.le_refl _)); clear hb)
    go_ret
    exact ⟨rfl, X3.out⟩
  have HOKS := hide hok
  clear hok
  go_enter Try.func3, Try.ntmps3
  go_upto_region 2 with (go_at_call 6; refine KN.out.mono ?_; rintro e w1 ⟨rfl, x1⟩; have X1 := hide x1; clear x1)
  clear KN
  have N1 := hide (NC.out _ X1.out)
  go_upto_region 3 with (go_at_call 7; refine N1.out.mono ?_; rintro e w2 ⟨⟨_, _, _, a, P0, rfl, h1, h2⟩ | ⟨h1, _⟩, hb⟩; rotate_left; (exact absurd HOKS.out h1); have CA2 := hide h1; have PP2 := hide h2; have X12 := hide hb; have X2 := hide (bt X1.out hb (Nat.le_refl _)); clear h1 h2 hb)
  clear N1
  have N2 := hide (ND.out _ X2.out)
  go_upto_region 8 with (go_at_call 8; refine N2.out.mono ?_; rintro e w3 ⟨⟨_, _, _, x, Q0, rfl, h1, h2⟩ | ⟨h1, _⟩, hb⟩; rotate_left; (exact absurd HOKS.out h1); have RA3 := hide h1; have QQ3 := hide h2; have X23 := hide hb; have X3 := hide (bt X2.out hb (Nat.le_refl _)); clear h1 h2 hb)
  clear N2 NC ND HZ
  have y4 : Below w3.heap.size w3 (w3.alloc (.cells #[.pointer (some ⟨a, 0, none⟩), .pointer (some ⟨x, 0, none⟩), .slice none 0 0] 35)) := al (Below.refl _ _) _
  have X4 := hide (bt X3.out y4 (Nat.le_refl _))
  have I4 : Hid (PS (w3.alloc (.cells #[.pointer (some ⟨a, 0, none⟩), .pointer (some ⟨x, 0, none⟩), .slice none 0 0] 35)) w.heap.size w3.heap.size a x A M [] P0 Q0 (.slice none 0 0) [] (fun _ => [])) := by
    refine ⟨⟨((CA2.out.below X23.out).below y4).tight, RA3.out.below y4, fun b hb hq => ?_⟩, ⟨heap_alloc_new w3 _, X3.out.size, ⟨World.ownsRow_nil _ _ _ _, (fun i hi => by cases hi), List.Pairwise.nil⟩, (fun d hd => by cases hd)⟩, fun k hk => ⟨?_, (fun e => by cases e), fun ⟨i, hi, _⟩ => by cases hi⟩, fun b hb => ?_, fun b hb => ?_⟩
    · have h1 := CA2.out.plt hb
      have h2 := QQ3.out b hq
      omega
    · intro e
      rcases hk with e2 | e2
      · have h1 := CA2.out.plt e2
        have h2 := X23.out.size
        omega
      · have h1 := RA3.out.plt e2
        omega
    · have h1 := PP2.out b hb
      have h2 := X1.out.size
      omega
    · have h1 := QQ3.out b hb
      have h2 := X2.out.size
      omega
  clear y4 CA2 PP2 RA3 QQ3 X12 X23 X1 X2 X3
  go_upto_region 9 with fail
  generalize w3.alloc (.cells #[.pointer (some ⟨a, 0, none⟩), .pointer (some ⟨x, 0, none⟩), .slice none 0 0] 35) = w4 at *
  generalize w3.heap.size = wb at *
  go_wp2
  go_loopw [13] (fun v wr => ∃ i : Nat, i ≤ T.length ∧ v = .int .i64 i ∧ ∃ N P Q lv D X, Hid (PS wr w.heap.size wb a x A M N P Q lv D X ∧ D.length ≤ i) ∧ Hid (Below w.heap.size w wr)) (fun v _ => T.length - (RowKit.intOf v).toNat)
  case atStart => exact ⟨0, Nat.zero_le _, rfl, [], P0, Q0, .slice none 0 0, [], fun _ => [], ⟨I4.out, Nat.le_refl _⟩, X4⟩
  case round =>
    obtain ⟨i, hi, rfl, N, P, Q, lv, D, X, I, HQ⟩ := hrel
    clear I4 X4
    by_cases hlt : i < T.length
    rotate_left
    · have hlt' : ¬ (i : Int) < (T.length : Int) := by omega
      have OWD := hide (owned_any I.out.1.wd HQ.out.size (by have := I.out.2; omega))
      have FINX : Hid (∀ W, KpL D wr W → Below w.heap.size w W) := fun W k => HQ.out.trans ((show Kept (fun k => FutL D 0 k) wr W from k).below HQ.out.size (fun b hb => (I.out.1.wd.lt.2.2 b hb).1))
      go_wp2_with (go_at_call 14; refine OWD.out.mono ?_; rintro e w20 ⟨rfl, k20⟩; have X20 := hide (FINX.out _ k20); clear k20)
      go_ret
      exact ⟨rfl, X20.out⟩
    have hlt' : (i : Int) < (T.length : Int) := by omega
    have hcsl := HCS.out _ (List.getElem_mem hlt)
    rcases HST.out with hT0 | ⟨bt0, ot0, rfl, hbt, hTT⟩
    · rw [hT0] at hlt; cases hlt
    obtain ⟨hcs, hop⟩ := hTT i hlt
    obtain ⟨o, ho⟩ : ∃ o, T[i] = o := ⟨_, rfl⟩
    rw [ho] at hcs hop hcsl
    clear ho hTT
    have hcw : ∀ j u, (opA o.z)[j]? = some u → wr.cell? ⟨bt0, ot0 + i * 9 + j, none⟩ = some u := fun j u hu => (HQ.out.cell (p := ⟨bt0, ot0 + i * 9 + j, none⟩) hbt).trans (hcs j u hu)
    have p0 : wr.cell? ⟨bt0, ot0 + i * 9, none⟩ = some (.bool o.z.near) := hcw 0 _ rfl
    have p1 := hcw 1 (.int .i64 o.z.what) rfl
    have p2 := hcw 2 (.int .i64 o.z.f) rfl
    have p3 := hcw 3 (.int .i64 o.z.g) rfl
    have p4 := hcw 4 (.int .i64 o.z.h) rfl
    have p5 := hcw 5 (.int .i64 o.z.l) rfl
    have p6 := hcw 6 (.int .i64 o.z.c) rfl
    have p7 := hcw 7 (.slice o.z.ia o.z.il o.z.ic) rfl
    have p8 := hcw 8 (.slice o.z.ca o.z.cl o.z.cc) rfl
    have HOP := hide (hop.below HQ.out)
    have HCL := hide hcsl
    have RAWF : Hid (∀ b off, o.z.ia = some ⟨b, off, none⟩ → o.IN ≠ [] → ¬ P b ∧ ¬ Q b) := fun b off e h0 => by
      have hb : b < w.heap.size := by
        rcases hop.ia with h | ⟨b', off', e', hb', _⟩
        · exact absurd h h0
        · rw [e] at e'
          injection e' with e'
          injection e' with e' _
          omega
      exact ⟨fun hp => by have := I.out.1.pB b hp; omega, fun hq => by have := I.out.1.qB b hq; omega⟩
    clear hcw hcs hop hcsl
    go_upto_region 13 with fail
    clear p0 p1 p2 p3 p4 p5 p6 p7 p8
    have y5 : Below wr.heap.size wr (wr.alloc (.cells #[.bool o.z.near, .int .i64 o.z.what, .int .i64 o.z.f, .int .i64 o.z.g, .int .i64 o.z.h, .int .i64 o.z.l, .int .i64 o.z.c, .slice o.z.ia o.z.il o.z.ic, .slice o.z.ca o.z.cl o.z.cc] 38)) := al (Below.refl _ _) _
    have B5 : Hid (Bx (wr.alloc (.cells #[.bool o.z.near, .int .i64 o.z.what, .int .i64 o.z.f, .int .i64 o.z.g, .int .i64 o.z.h, .int .i64 o.z.l, .int .i64 o.z.c, .slice o.z.ia o.z.il o.z.ic, .slice o.z.ca o.z.cl o.z.cc] 38)) wr.heap.size o.z.near o.z.what o.z.f o.z.g o.z.h o.z.l o.z.c (.slice o.z.ia o.z.il o.z.ic) (.slice o.z.ca o.z.cl o.z.cc)) := heap_alloc_new wr _
    have Y5 := hide y5
    have SZ5 : Hid (∃ ob, ob = wr.heap.size) := ⟨_, rfl⟩
    clear y5
    generalize wr.alloc (.cells #[.bool o.z.near, .int .i64 o.z.what, .int .i64 o.z.f, .int .i64 o.z.g, .int .i64 o.z.h, .int .i64 o.z.l, .int .i64 o.z.c, .slice o.z.ia o.z.il o.z.ic, .slice o.z.ca o.z.cl o.z.cc] 38) = w5 at *
    obtain ⟨ob, hob⟩ := SZ5.out
    rw [← hob] at B5
    try rw [← hob]
    have HOB : Hid (wr.heap.size ≤ ob) := by rw [hob]; exact Nat.le_refl _
    clear hob SZ5
    have I5 := hide (I.out.1.below Y5.out)
    have HDL := hide I.out.2
    have HQ5 := hide (bt HQ.out Y5.out (Nat.le_refl _))
    have HOP5 := hide (HOP.out.below Y5.out)
    have WBL : Hid (wb < wr.heap.size) := I.out.1.wd.lt.1
    have LVL : Hid (∀ k, lv.ownBlock = some k → k < wr.heap.size) := fun k hk => (I.out.1.wd.lt.2.1 k hk).2
    have FUL : Hid (∀ k, FutL D 0 k → k < wr.heap.size) := fun k hk => (I.out.1.wd.lt.2.2 k hk).2
    have HBR : Hid (w.heap.size ≤ wr.heap.size) := HQ.out.size
    have PBL : Hid (∀ k, P k ∨ Q k → k < wr.heap.size) := fun k hk => hk.elim (fun e => I.out.1.sd.ca.plt e) (fun e => I.out.1.sd.ra.plt e)
    clear I HQ HOP Y5
    obtain ⟨o0, o1, o2, o3, o4, o5, o6, o7, o8⟩ := B5.out.cells
    go_upto_if 66 with fail
    go_cut [] (fun wx => ∃ z2 IN2 CS2, Hid (Bx wx ob z2.near z2.what z2.f z2.g z2.h z2.l z2.c (.slice z2.ia z2.il z2.ic) (.slice z2.ca z2.cl z2.cc)) ∧ Hid (OpGn wx z2 IN2 CS2 P Q) ∧ Hid (PS wx w.heap.size wb a x A M N P Q lv D X) ∧ Hid (Below w.heap.size w wx))
    case first =>
      obtain ⟨zn, hzn⟩ : ∃ zn, o.z.near = zn := ⟨_, rfl⟩
      rw [hzn] at o0
      simp only [hzn]
      cases zn with
      | false =>
        have GN : Hid (OpGn w5 o.z o.IN o.CS P Q) := ⟨HOP5.out.fc, HOP5.out.il, HOP5.out.ia, HOP5.out.ile, HOP5.out.cl, HOP5.out.ca, by have := HCL.out; omega, RAWF.out⟩
        clear o0 o1 o2 o3 o4 o5 o6 o7 o8 hzn
        go_wp2
        go_meet
        exact ⟨o.z, o.IN, o.CS, B5, GN, I5, HQ5⟩
      | true =>
        have NR := hide (near_ok I5.out.sd.ra I5.out.wd.blk HOP5.out)
        unfold opA at NR
        rw [hzn] at NR
        have RT : Hid (∀ (e : Ending) (W : World), ((∃ z2 IN2 CS2 l c, e = .returned (.agg (opA z2)) ∧ OpNr W A N o.z z2 IN2 CS2 l c ∧ (∀ b off, z2.ia = some ⟨b, off, none⟩ → w5.heap.size ≤ b) ∧ (∀ b off, z2.ca = some ⟨b, off, none⟩ → w5.heap.size ≤ b)) ∧ Below w5.heap.size w5 W) → ∃ z2 IN2 CS2 l c, e = .returned (.agg #[.bool z2.near, .int .i64 z2.what, .int .i64 z2.f, .int .i64 z2.g, .int .i64 z2.h, .int .i64 z2.l, .int .i64 z2.c, .slice z2.ia z2.il z2.ic, .slice z2.ca z2.cl z2.cc]) ∧ OpNr W A N o.z z2 IN2 CS2 l c ∧ (∀ b off, z2.ia = some ⟨b, off, none⟩ → w5.heap.size ≤ b) ∧ (∀ b off, z2.ca = some ⟨b, off, none⟩ → w5.heap.size ≤ b) ∧ Below w5.heap.size w5 W) := fun e W ⟨⟨z2, IN2, CS2, l, c, h1, h2, h4, h5⟩, h3⟩ => ⟨z2, IN2, CS2, l, c, h1, h2, h4, h5, h3⟩
        have NR2 : Hid (Calls Try.prog 9 #[.pointer (some ⟨wb, 0, none⟩), .agg #[.bool true, .int .i64 o.z.what, .int .i64 o.z.f, .int .i64 o.z.g, .int .i64 o.z.h, .int .i64 o.z.l, .int .i64 o.z.c, .slice o.z.ia o.z.il o.z.ic, .slice o.z.ca o.z.cl o.z.cc]] w5 fun e W => ∃ z2 IN2 CS2 l c, e = .returned (.agg #[.bool z2.near, .int .i64 z2.what, .int .i64 z2.f, .int .i64 z2.g, .int .i64 z2.h, .int .i64 z2.l, .int .i64 z2.c, .slice z2.ia z2.il z2.ic, .slice z2.ca z2.cl z2.cc]) ∧ OpNr W A N o.z z2 IN2 CS2 l c ∧ (∀ b off, z2.ia = some ⟨b, off, none⟩ → w5.heap.size ≤ b) ∧ (∀ b off, z2.ca = some ⟨b, off, none⟩ → w5.heap.size ≤ b) ∧ Below w5.heap.size w5 W) := NR.out.mono (fun e W h => RT.out e W h)
        rw [hzn] at B5
        clear NR RT hzn
        go_wp2_with (go_at_call 9; refine NR2.out.mono ?_; rintro e w7 ⟨z2, IN2, CS2, l2, c2, rfl, nr, fr, cfr, x7⟩; have NRR := hide nr; have FR := hide fr; have CFR := hide cfr; have X7 := hide x7; have B7 := hide (B5.out.below x7); obtain ⟨⟨_, p0⟩, f0, ⟨_, p1⟩, f1, ⟨_, p2⟩, f2, ⟨_, p3⟩, f3, ⟨_, p4⟩, f4, ⟨_, p5⟩, f5, ⟨_, p6⟩, f6, ⟨_, p7⟩, f7, ⟨_, p8⟩, f8, hsb, hsk⟩ := st9 B7.out (.bool z2.near) (.int .i64 z2.what) (.int .i64 z2.f) (.int .i64 z2.g) (.int .i64 z2.h) (.int .i64 z2.l) (.int .i64 z2.c) (.slice z2.ia z2.il z2.ic) (.slice z2.ca z2.cl z2.cc); have HSB := hide hsb; have HSK := hide hsk; clear nr fr cfr x7 hsb hsk)
        clear o0 o1 o2 o3 o4 o5 o6 o7 o8 p0 f0 p1 f1 p2 f2 p3 f3 p4 f4 p5 f5 p6 f6 p7 f7 p8 f8
        have X57 := X7
        have FINN : Hid (Bx (((((((((w7.setCell ⟨ob, 0, none⟩ (.bool z2.near)).setCell ⟨ob, 1, none⟩ (.int .i64 z2.what)).setCell ⟨ob, 2, none⟩ (.int .i64 z2.f)).setCell ⟨ob, 3, none⟩ (.int .i64 z2.g)).setCell ⟨ob, 4, none⟩ (.int .i64 z2.h)).setCell ⟨ob, 5, none⟩ (.int .i64 z2.l)).setCell ⟨ob, 6, none⟩ (.int .i64 z2.c)).setCell ⟨ob, 7, none⟩ (.slice z2.ia z2.il z2.ic)).setCell ⟨ob, 8, none⟩ (.slice z2.ca z2.cl z2.cc)) ob z2.near z2.what z2.f z2.g z2.h z2.l z2.c (.slice z2.ia z2.il z2.ic) (.slice z2.ca z2.cl z2.cc)) := HSB.out
        generalize (((((((((w7.setCell ⟨ob, 0, none⟩ (.bool z2.near)).setCell ⟨ob, 1, none⟩ (.int .i64 z2.what)).setCell ⟨ob, 2, none⟩ (.int .i64 z2.f)).setCell ⟨ob, 3, none⟩ (.int .i64 z2.g)).setCell ⟨ob, 4, none⟩ (.int .i64 z2.h)).setCell ⟨ob, 5, none⟩ (.int .i64 z2.l)).setCell ⟨ob, 6, none⟩ (.int .i64 z2.c)).setCell ⟨ob, 7, none⟩ (.slice z2.ia z2.il z2.ic)).setCell ⟨ob, 8, none⟩ (.slice z2.ca z2.cl z2.cc)) = w8 at *
        have OBL : Hid (ob < w5.heap.size) := lt_of_block B5.out
        have Y8 : Hid (Below wr.heap.size w5 w8) := ((X7.out.mono (Nat.le_trans HOB.out (Nat.le_of_lt OBL.out))).trans (HSK.out.below (Nat.le_trans (Nat.le_trans HOB.out (Nat.le_of_lt OBL.out)) X7.out.size) (fun b hb => by have := HOB.out; omega)))
        have K8 : Hid (Kept (fun b => b = ob) w5 w8) := (Kept.of_below X7.out).trans HSK.out
        have PS8 : Hid (PS w8 w.heap.size wb a x A M N P Q lv D X) := by
          have hnp : ∀ k, P k ∨ Q k → ¬ k = ob := fun k hk e => by have h1 := PBL.out k hk; have h2 := HOB.out; omega
          have l := I5.out.wd.lt
          refine ⟨⟨I5.out.sd.ca.kept K8.out (fun b hb e => hnp b (.inl hb) e), I5.out.sd.ra.kept K8.out (fun b hb e => hnp b (.inr hb) e), I5.out.sd.dis⟩, I5.out.wd.kept K8.out ?_ ?_ ?_, I5.out.dis, I5.out.pB, I5.out.qB⟩
          · intro e; have h5 := WBL.out; have h6 := HOB.out; omega
          · intro k hk e; have h5 := LVL.out k hk; have h6 := HOB.out; omega
          · intro k hk e; have h5 := FUL.out k hk; have h6 := HOB.out; omega
        have GN8 : Hid (OpGn w8 z2 IN2 CS2 P Q) := by
          have h := NRR.out
          have hsz := I5.out.sd.ca.ok.sz
          have h256 := hsz.each _ (getD_mem h.lt)
          have hcl := h.clt
          have hinl := h.inl
          have h12 := hsz.le
          refine ⟨by rw [h.c]; unfold Fit; omega, h.il, h.ia.kept HSK.out (fun b off e h0 e2 => ?_), by omega, h.cl, h.ca.keptZ HSK.out (fun b off e h0 e2 => ?_), by rw [h.pt.len]; omega, fun b off e h0 => ⟨fun hp => ?_, fun hq => ?_⟩⟩
          · have h1 := FR.out b off e; have h2 := OBL.out; omega
          · have h1 := CFR.out b off e; have h2 := OBL.out; omega
          · have h1 := FR.out b off e; have h2 := PBL.out b (.inl hp); have h3 := OBL.out; have h4 := HOB.out; omega
          · have h1 := FR.out b off e; have h2 := PBL.out b (.inr hq); have h3 := OBL.out; have h4 := HOB.out; omega
        have HQ8 : Hid (Below w.heap.size w w8) := HQ5.out.trans (Y8.out.mono HBR.out)
        go_meet
        exact ⟨z2, IN2, CS2, FINN, GN8, PS8, HQ8⟩
    obtain ⟨z2, IN2, CS2, B8, GN8, PS8, HQ8⟩ := hcut
    obtain ⟨w8, hw8⟩ : ∃ w8, w8 = wc := ⟨_, rfl⟩
    subst hw8
    clear I5 HQ5 HOP5 RAWF HCL B5 o0 o1 o2 o3 o4 o5 o6 o7 o8
    have HB8 : Hid (w.heap.size ≤ w8.heap.size) := HQ8.out.size
    have LEN := hide PS8.out.sd.ra.len
    go_upto_region 17 with (go_at_call 10; refine LEN.out.mono ?_; rintro e w9 ⟨rfl, hw1⟩; have hw2 := hw1.symm; clear hw1; subst hw2)
    clear LEN
    obtain ⟨o0, o1, o2, o3, o4, o5, o6, o7, o8⟩ := B8.out.cells
    have HDL2 : Hid (D.length ≤ 3000000) := by have := HDL.out; unfold Hid; omega
    go_cut [79] (fun v wx => ∃ b : Bool, v = .bool b ∧ Hid (b = true ↔ 7 ≤ z2.what ∧ z2.what ≤ 10) ∧ Hid (wx = w8))
    case first =>
      by_cases h7 : 7 ≤ z2.what
      · by_cases h10 : z2.what ≤ 10
        · have hb : Hid (true = true ↔ 7 ≤ z2.what ∧ z2.what ≤ 10) := ⟨fun _ => ⟨h7, h10⟩, fun _ => rfl⟩
          go_wp2
          go_meet
          exact ⟨true, rfl, hide ⟨fun _ => ⟨h7, h10⟩, fun _ => rfl⟩, hide rfl⟩
        · go_wp2
          go_meet
          exact ⟨false, rfl, hide ⟨fun h => Bool.noConfusion h, fun h => by omega⟩, hide rfl⟩
      · go_wp2
        go_meet
        exact ⟨false, rfl, hide ⟨fun h => Bool.noConfusion h, fun h => by omega⟩, hide rfl⟩
    obtain ⟨bb, rfl, HBB, hwc⟩ := hcut
    have hwc2 := hwc.out.symm
    clear hwc
    subst hwc2
    go_upto_if 79 with fail
    go_cut [16] (fun v wx => v = .bool true ∧ ∃ N', Hid (PL w.heap.size wb a x A M D w8 N' wx))
    case first =>
      cases bb with
      | true =>
        obtain ⟨hr1, hr2⟩ := HBB.out.1 rfl
        clear HBB
        have LK : Hid (Calls Try.prog 11 #[.pointer (some ⟨wb, 0, none⟩), .agg #[.bool z2.near, .int .i64 z2.what, .int .i64 z2.f, .int .i64 z2.g, .int .i64 z2.h, .int .i64 z2.l, .int .i64 z2.c, .slice z2.ia z2.il z2.ic, .slice z2.ca z2.cl z2.cc]] w8 fun e w' => e = .returned (.bool true) ∧ ∃ N', PL w.heap.size wb a x A M D w8 N' w') := by
          have gn := GN8.out
          have hil := gn.il
          have hcl := gn.cl
          obtain ⟨zn, zw, zf, zg, zh, zl, zc, ia, il, ic, ca, cl, cc⟩ := z2
          simp only at hr1 hr2 hil hcl gn ⊢
          have gca := gn.ca
          have gfc := gn.fc
          simp only at gca gfc
          subst hil hcl
          by_cases e7 : zw = 7
          · subst e7
            exact (looks_eval PS8.out.sd PS8.out.wd.blk gca gn.cle).mono fun e w' h => ⟨h.1, N, PS8.out.stay HB8.out h.2⟩
          by_cases e8 : zw = 8
          · subst e8
            exact (looks_path PS8.out HB8.out HDL2.out).mono fun e w' h => ⟨h.1, N, h.2⟩
          by_cases e9 : zw = 9
          · subst e9
            exact (looks_nodes PS8.out HB8.out HDL2.out).mono fun e w' h => ⟨h.1, N, h.2⟩
          have e10 : zw = 10 := by omega
          subst e10
          exact (looks_back PS8.out HB8.out gfc).mono fun e w' ⟨n, _, h1, h2⟩ => ⟨h1, _, h2⟩
        clear B8 GN8
        go_wp2_with (go_at_call 11; refine LK.out.mono ?_; rintro e w9 ⟨rfl, N9, pl⟩; have PL9 := hide pl; clear pl)
        go_meet
        exact ⟨rfl, N9, PL9⟩
      | false =>
        clear HBB
        obtain ⟨G, hmk⟩ := makes_gen PS8.out.sd PS8.out.wd.blk PS8.out.np PS8.out.nq GN8.out.il GN8.out.ia GN8.out.ile GN8.out.fr
        have HMK := hide hmk
        unfold opA at HMK
        have NXT : Hid (∀ P9 Q9 W, SD W a x A M G.2.2 G.2.2 P9 Q9 → Kept (fun b => P b ∨ Q b) w8 W → Gw w8 P P9 → Gw w8 Q Q9 → PL w.heap.size wb a x A M D w8 G.2.2 W) := fun P9 Q9 W h1 h2 h3 h4 => PS8.out.stepL HB8.out h1 h2 h3 h4
        clear hmk GN8 B8
        go_wp2_with (go_at_call 12; refine HMK.out.mono ?_; rintro e w9 ⟨P9, Q9, rfl, s9, k9, g9, q9, _⟩; have PL9 := hide (NXT.out P9 Q9 _ s9 k9 g9 q9); clear s9 k9 g9 q9)
        go_meet
        exact ⟨by simp, _, PL9⟩
    obtain ⟨rfl, N9, PL9⟩ := hcut
    obtain ⟨w9, hw9⟩ : ∃ w9, w9 = wc := ⟨_, rfl⟩
    subst hw9
    obtain ⟨P9, Q9, lv9, D9, X9, ps9, hd9, bl9⟩ := PL9.out
    have PS9 := hide ps9
    have HQ9 := hide (HQ8.out.trans bl9)
    have HD9 : Hid (D9.length ≤ i + 1) := by have := HDL.out; unfold Hid; omega
    clear ps9 hd9 bl9 PL9 PS8 HQ8 B8 GN8 o0 o1 o2 o3 o4 o5 o6 o7 o8 HDL HDL2 PBL HOB
    have LEN := hide PS9.out.sd.ra.len
    have NDS := hide (fun fr (h : fr ≤ N9.length) => nodes_ok (fr := fr) PS9.out.sd PS9.out.wd.blk h)
    by_cases hmn : N.length ≤ N9.length
    · have hm1 : min (N.length : Int) (N9.length : Int) = (N.length : Int) := by omega
      have hm2 : (N.length : Int) ≤ (N9.length : Int) := by omega
      have ND1 := hide (NDS.out N.length hmn)
      clear NDS
      by_cases hme : N9.length = N.length
      · have hm3 : ¬ (N9.length : Int) < (N.length : Int) := by omega
        rw [hme] at LEN hm1 hm2 hm3
        clear hmn hme
        go_wp2_with (first
          | (go_at_call 10; refine LEN.out.mono ?_; rintro e w10 ⟨rfl, hw1⟩; have hw2 := hw1.symm; clear hw1; subst hw2)
          | (go_at_call 13; refine ND1.out.mono ?_; rintro e w10 ⟨rfl, x10⟩; have X10 := hide x10; clear x10))
        have PS10 := hide (PS9.out.below X10.out)
        have HQ10 := hide (bt HQ9.out X10.out (Nat.le_refl _))
        go_roundw
        case rel => exact ⟨i + 1, by omega, by go_num, N9, P9, Q9, lv9, D9, X9, ⟨PS10.out, HD9.out⟩, HQ10⟩
        case measure => simp [RowKit.intOf]; omega
      · have hm3 : ¬ (N9.length : Int) < (N.length : Int) := by omega
        have hm4 : (N.length : Int) < (N9.length : Int) := by omega
        clear hme
        go_wp2_with (first
          | (go_at_call 10; refine LEN.out.mono ?_; rintro e w10 ⟨rfl, hw1⟩; have hw2 := hw1.symm; clear hw1; subst hw2)
          | (go_at_call 13; refine ND1.out.mono ?_; rintro e w10 ⟨rfl, x10⟩; have X10 := hide x10; clear x10))
        have PS10 := hide (PS9.out.below X10.out)
        have HQ10 := hide (bt HQ9.out X10.out (Nat.le_refl _))
        go_roundw
        case rel => exact ⟨i + 1, by omega, by go_num, N9, P9, Q9, lv9, D9, X9, ⟨PS10.out, HD9.out⟩, HQ10⟩
        case measure => simp [RowKit.intOf]; omega
    · have hm1 : min (N.length : Int) (N9.length : Int) = (N9.length : Int) := by omega
      have hm2 : ¬ (N.length : Int) ≤ (N9.length : Int) := by omega
      have hm3 : (N9.length : Int) < (N.length : Int) := by omega
      have ND1 := hide (NDS.out N9.length (Nat.le_refl _))
      clear NDS
      go_wp2_with (first
        | (go_at_call 10; refine LEN.out.mono ?_; rintro e w10 ⟨rfl, hw1⟩; have hw2 := hw1.symm; clear hw1; subst hw2)
        | (go_at_call 13; refine ND1.out.mono ?_; rintro e w10 ⟨rfl, x10⟩; have X10 := hide x10; clear x10))
      have PS10 := hide (PS9.out.below X10.out)
      have HQ10 := hide (bt HQ9.out X10.out (Nat.le_refl _))
      go_roundw
      case rel => exact ⟨i + 1, by omega, by go_num, N9, P9, Q9, lv9, D9, X9, ⟨PS10.out, HD9.out⟩, HQ10⟩
      case measure => simp [RowKit.intOf]; omega
end Go.Proofs.Ytaafeflbanoncaa
