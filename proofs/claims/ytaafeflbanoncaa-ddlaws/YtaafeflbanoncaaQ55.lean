/-
  DdLaws by its contract. Condition: a script no longer than a process can hold.
-/
import Derived.Test.YtaafeflbanoncaaQ32
import Derived.Test.YtaafeflbanoncaaQ42
import Derived.Test.YtaafeflbanoncaaQ53
import Derived.Test.YtaafeflbanoncaaQ54
namespace Go.Proofs.Ytaafeflbanoncaa
open Go.RowKit Go.Lib Go.Maps

/-- The sizes that are taken. -/
def sz4 (A : List Int) (k : Nat) : List Int := (A.take k).map fun c => 1 + (pkZ c 4 : Int)
theorem sz4_length {A : List Int} {k : Nat} (h : k ≤ A.length) : (sz4 A k).length = k := by simp [sz4]; omega
theorem sz4_snoc {A : List Int} {k : Nat} (h : k < A.length) : sz4 A (k + 1) = sz4 A k ++ [1 + (pkZ (A.getD k 0) 4 : Int)] := by
  unfold sz4
  rw [take_snoc h, List.map_append]
  rfl
theorem sz4_mem {A : List Int} {k : Nat} : ∀ s ∈ sz4 A k, 1 ≤ s ∧ s ≤ 4 := fun s hs => by
  obtain ⟨c, _, rfl⟩ := List.mem_map.1 hs
  have := pkZ_lt c (n := 4) (by decide)
  omega
theorem sz4_ok {A : List Int} {k : Nat} (h : k ≤ A.length) (h0 : 0 < k) (h4 : k ≤ 12) : SzOk (sz4 A k) := ⟨by rw [sz4_length h]; omega, by rw [sz4_length h]; omega, fun s hs => by have := sz4_mem s hs; omega⟩
theorem kids_len {S : List Int} {M : Int} {N : List Nd} {j : Nat} {lv : Int} {ks : List Int} (h : Ok S M N) (hj : N[j]? = some (lv, ks)) : ks.length ≤ 256 := by
  have hlt : j < N.length := by
    rcases Nat.lt_or_ge j N.length with h1 | h1
    · exact h1
    · rw [List.getElem?_eq_none h1] at hj; cases hj
  have e1 : N[j] = (lv, ks) := by rw [List.getElem?_eq_getElem hlt] at hj; exact Option.some.inj hj
  have h2 := (h.each j hlt).1
  rw [e1] at h2
  have h3 := h2.ge
  have h4 := h2.lt
  have h5 := h2.len
  have h6 := h.sz.each _ (getD_mem (L := S) (i := lv.toNat) (by omega))
  simp only at h3 h4 h5
  omega
theorem newD_open (ao : Option Addr) (cap : Nat) (A : List Int) (M : Int) (w : World) (hl : A.length ≤ 140737488351232) (hz : ZAt w ao A) :
    Calls Try.prog 8 #[.slice ao A.length cap, .int .i64 M] w fun e w' => ((SzOk A ∧ 0 ≤ M ∧ M ≤ 8192 ∧ ∃ x P, e = .returned (.tuple #[.pointer (some ⟨x, 0, none⟩), .int .i64 0]) ∧ RA w' x A M [] P ∧ ∀ k, P k → w.heap.size ≤ k) ∨ (¬ (SzOk A ∧ 0 ≤ M ∧ M ≤ 8192) ∧ e = .returned (.tuple #[.pointer none, .int .i64 1]))) ∧ Below w.heap.size w w' := newD_any ao cap A M w hl hz
/-- Both arenas and the world, all made since B. -/
structure WI (w : World) (B wb a x : Nat) (S : List Int) (M : Int) (N N2 : List Nd) (P Q : Nat → Prop) : Prop where
  sd : SD w a x S M N N2 P Q
  wk : WBk w wb a x (.slice none 0 0)
  np : ¬ P wb
  nq : ¬ Q wb
  pB : ∀ b, P b → B ≤ b
  qB : ∀ b, Q b → B ≤ b
section
variable {w w' : World} {B wb a x : Nat} {S : List Int} {M : Int} {N N1 N2 N3 : List Nd} {P Q P' Q' : Nat → Prop}
theorem WI.below (h : WI w B wb a x S M N N2 P Q) (y : Below w.heap.size w w') : WI w' B wb a x S M N N2 P Q := ⟨h.sd.below y, (y.block _ (lt_of_block h.wk)).trans h.wk, h.np, h.nq, h.pB, h.qB⟩
theorem WI.step (h : WI w B wb a x S M N N2 P Q) (hB : B ≤ w.heap.size) (hs : SD w' a x S M N1 N3 P' Q') (k : Kept (fun b => P b ∨ Q b) w w') (g1 : Gw w P P') (g2 : Gw w Q Q') : WI w' B wb a x S M N1 N3 P' Q' ∧ Below B w w' :=
  ⟨⟨hs, (k.block _ (lt_of_block h.wk) (fun e => e.elim h.np h.nq)).trans h.wk, g1.not (lt_of_block h.wk) h.np, g2.not (lt_of_block h.wk) h.nq, fun b hb => (g1 b hb).elim (h.pB b) (Nat.le_trans hB), fun b hb => (g2 b hb).elim (h.qB b) (Nat.le_trans hB)⟩, k.below hB (fun b hb => hb.elim (h.pB b) (h.qB b))⟩
/-- laws, then all as before in the document's arena. -/
theorem WI.laws (h : WI w B wb a x S M N N2 P Q) (hB : B ≤ w.heap.size) (k : LI w a S M N P N1 P' w') : WI w' B wb a x S M N1 N2 P' Q ∧ Below B w w' := by
  refine h.step hB ⟨k.ca, h.sd.ra.kept k.kp (fun b hb hp => h.sd.dis b hp hb), fun b hb hq => (k.gw b hb).elim (fun h1 => h.sd.dis b h1 hq) (fun h1 => by have := h.sd.ra.plt hq; omega)⟩ (k.kp.mono (fun _ h => .inl h)) k.gw (Gw.refl _ _)
theorem WI.doc (h : WI w B wb a x S M N N2 P Q) (hB : B ≤ w.heap.size) (hr : RA w' x S M N3 Q') (k : Kept Q w w') (g : Gw w Q Q') : WI w' B wb a x S M N N3 P Q' ∧ Below B w w' := by
  refine h.step hB ⟨h.sd.ca.kept k (fun b hb hq => h.sd.dis b hb hq), hr, fun b hb hq => (g b hq).elim (fun h1 => h.sd.dis b hb h1) (fun h1 => by have := h.sd.ca.plt hb; omega)⟩ (k.mono (fun _ h => .inr h)) (Gw.refl _ _) g
end
set_option maxRecDepth 100000 in
set_option maxHeartbeats 8000000 in
theorem ddLaws_any (a0 so : Option Addr) (cap0 cap1 : Nat) (A : List Int) (T : List OpX) (lev : Int) (w : World) (hT : T.length ≤ 2800000000000) (zA : ZAt w a0 A) (fA : ∀ k ∈ A, Fit k) (sT : OpAtX w so T) (fl : Fit lev) :
    Calls Try.prog 5 #[.slice a0 A.length cap0, .slice so T.length cap1, .int .i64 lev] w fun e w' => e = .returned (.bool true) ∧ Below w.heap.size w w' := by
  obtain ⟨i3, hi3, hz30, hz31, hz32⟩ := info_parts Try.info3
  have KN := hide (known_any w)
  have HZ := hide zA
  have HFA := hide fA
  have HST := hide sT
  have HFL := hide fl
  clear zA fA sT fl
  go_enter Try.func5, Try.ntmps5
  go_upto_block 0 with (go_at_call 6; refine KN.out.mono ?_; rintro e w1 ⟨rfl, x1⟩; have X1 := hide x1; clear x1)
  clear KN
  go_cut [8] (fun v wx => ∃ k : Nat, k ≤ A.length ∧ k ≤ 12 ∧ Hid (wx.ownsRow w.heap.size 3 1 v k (zC (sz4 A k))) ∧ Hid (Below w.heap.size w wx))
  case first =>
    go_wp2
    go_loopw [8, 9] (fun v u wr => ∃ k : Nat, k ≤ A.length ∧ k ≤ 12 ∧ u = .int .i64 k ∧ Hid (wr.ownsRow w.heap.size 3 1 v k (zC (sz4 A k))) ∧ Hid (Below w.heap.size w wr)) (fun _ u _ => 13 - (RowKit.intOf u).toNat)
    case atStart => exact ⟨0, Nat.zero_le _, by omega, rfl, World.ownsRow_nil _ _ _ _, X1⟩
    case round =>
      obtain ⟨k, hk, hk4, rfl, HO, HQ⟩ := hrel
      obtain ⟨sa, sc, rfl, _⟩ := own_shape HO.out
      by_cases hlt : k < A.length
      · have hlt' : (k : Int) < (A.length : Int) := by omega
        by_cases h4 : k < 12
        · have h4' : (k : Int) < 12 := by omega
          obtain ⟨bz, oz, rfl, hbz, gz⟩ := HZ.out.get hlt
          have gz' := (HQ.out.cell (p := ⟨bz, oz + k, none⟩) hbz).trans gz
          have PK := hide (pick_any (A.getD k 0) 4 (HFA.out _ (getD_mem hlt)) (by decide) (by decide) wr)
          have hpk := pkZ_lt (A.getD k 0) (n := 4) (by decide)
          have HSN := hide (sz4_snoc hlt)
          generalize A.getD k 0 = ak at *
          generalize pkZ ak 4 = pk at *
          clear gz
          have hwp : IntKind.i64.wrap (1 + (pk : Int)) = 1 + (pk : Int) := by simp [IntKind.wrap, IntKind.bits, IntKind.signed]; omega
          have y5 : Below wr.heap.size wr (wr.alloc (.cells #[.int .i64 (1 + (pk : Int))] 3)) := al (Below.refl _ _) _
          have Y5 := hide y5
          have OW := hide (own_below HO.out y5)
          have SZ : Hid (w.heap.size ≤ (wr.alloc (.cells #[.int .i64 (1 + (pk : Int))] 3)).heap.size) := Nat.le_trans HQ.out.size y5.size
          clear y5
          go_wp2_with (first
            | (go_at_call 15; refine PK.out.mono ?_; rintro e w3 ⟨rfl, hw3⟩; have hw4 := hw3.symm; clear hw3; subst hw4)
            | (at_builtin; refine wpList_append_view rfl (.tmp 36) (.tmp 43) 22 rfl w.heap.size 3 i3 (.int .i64 0) 1 8 Try.underlying22 hi3 hz30 hz31 hz32 rfl (by decide) _ k (zC (sz4 A k)) rfl OW.out ⟨wr.heap.size, 0, none⟩ 1 1 [.int .i64 (1 + (pk : Int))] rfl rfl (one_new wr _ _) (by simp [Value.oneCell']) (by decide) (by unfold maxLen; omega) (by omega) SZ.out ?_; intro v4 w4 h1 h2; obtain ⟨ao4, cap4, hv4, _⟩ := own_shape h1; subst hv4; have O4 := hide h1; have X4 := hide (Below.trans (bt HQ.out Y5.out (Nat.le_refl _)) ((appK h2).below SZ.out (fun b hb => (World.ownsRow.lt OW.out b hb).1))); clear h1 h2))
          go_roundw
          case rel => exact ⟨k + 1, by omega, by omega, by go_num, by unfold Hid; rw [HSN.out, zC_snoc]; exact O4.out, X4⟩
          case measure => simp [RowKit.intOf]; omega
        · have h4' : ¬ (k : Int) < 12 := by omega
          go_wp2
          go_meet
          exact ⟨k, hk, hk4, HO, HQ⟩
      · have hlt' : ¬ (k : Int) < (A.length : Int) := by omega
        go_wp2
        go_meet
        exact ⟨k, hk, hk4, HO, HQ⟩
  obtain ⟨k, hk, hk4, HO, X2⟩ := hcut
  obtain ⟨w2, hw2⟩ : ∃ w2, w2 = wc := ⟨_, rfl⟩
  subst hw2
  obtain ⟨sa, sc, rfl, _⟩ := own_shape HO.out
  clear X1 HZ HFA
  by_cases hk0 : k = 0
  · subst hk0
    go_wp2
    go_ret
    exact ⟨rfl, X2.out⟩
  have HOKS := hide (sz4_ok hk (by omega) hk4)
  have hSl := sz4_length hk
  clear hk
  generalize sz4 A k = S at *
  subst hSl
  obtain ⟨sb, sc2, hsv, hsb, zS⟩ := own_blk HO.out (by omega)
  injection hsv with hsa hsc hcc
  subst hsa hcc
  have HNW := hide (new_any (some ⟨sb, 0, none⟩) sc S 8192 w2 (by omega) zS.at)
  have ZS := hide zS
  have hne : ((S.length : Int) == 0) = false := beq_eq_false_iff_ne.2 (by omega)
  clear zS hsb HO hsc
  go_upto_region 10 with (go_at_call 7; refine HNW.out.mono ?_; rintro e w4 ⟨⟨_, _, _, a, P, rfl, h1, h2⟩ | ⟨h1, _⟩, hb⟩; rotate_left; (exact absurd ⟨HOKS.out, by decide, by decide⟩ h1); have CA4 := hide h1; have PP4 := hide h2; have X4 := hide hb; clear h1 h2 hb)
  clear HNW
  have HNW := hide (newD_open (some ⟨sb, 0, none⟩) sc S 8192 w4 (by omega) (ZS.out.below X4.out).at)
  go_upto_region 13 with (go_at_call 8; refine HNW.out.mono ?_; rintro e w5 ⟨⟨_, _, _, x, Q, rfl, h1, h2⟩ | ⟨h1, _⟩, hb⟩; rotate_left; (exact absurd ⟨HOKS.out, by decide, by decide⟩ h1); have RA5 := hide h1; have QQ5 := hide h2; have X5 := hide hb; clear h1 h2 hb)
  clear HNW ZS hne
  have XB5 := hide (bt (bt X2.out X4.out (Nat.le_refl _)) X5.out (Nat.le_refl _))
  have y6 : Below w5.heap.size w5 (w5.alloc (.cells #[.pointer (some ⟨a, 0, none⟩), .pointer (some ⟨x, 0, none⟩), .slice none 0 0] 35)) := al (Below.refl _ _) _
  have X6 := hide (bt XB5.out y6 (Nat.le_refl _))
  have I6 : Hid (WI (w5.alloc (.cells #[.pointer (some ⟨a, 0, none⟩), .pointer (some ⟨x, 0, none⟩), .slice none 0 0] 35)) w.heap.size w5.heap.size a x S 8192 [] [] P Q) := by
    refine ⟨⟨((CA4.out.below X5.out).below y6).tight, RA5.out.below y6, fun b hb hq => ?_⟩, heap_alloc_new w5 _, fun hp => ?_, fun hq => ?_, fun b hb => ?_, fun b hb => ?_⟩
    · have h1 := CA4.out.plt hb
      have h2 := QQ5.out b hq
      omega
    · have h1 := CA4.out.plt hp
      have h2 := X5.out.size
      omega
    · have h1 := RA5.out.plt hq
      omega
    · have h1 := PP4.out b hb
      have h2 := X2.out.size
      omega
    · have h1 := QQ5.out b hb
      have h2 := X2.out.size
      have h3 := X4.out.size
      omega
  clear y6 CA4 PP4 RA5 QQ5 X4 X5 XB5 X2
  go_upto_region 14 with fail
  generalize w5.alloc (.cells #[.pointer (some ⟨a, 0, none⟩), .pointer (some ⟨x, 0, none⟩), .slice none 0 0] 35) = w6 at *
  generalize w5.heap.size = wb at *
  have hSl12 : S.length ≤ 12 := HOKS.out.le
  have PKL := hide (fun W => pick_any lev S.length HFL.out (by omega) (by omega) W)
  have hll := pkZ_lt lev (n := S.length) (by omega)
  generalize pkZ lev S.length = l at *
  have HLL := hide hll
  clear hll HFL
  go_wp2
  go_loopw [15] (fun v wr => ∃ i : Nat, i ≤ T.length ∧ v = .int .i64 i ∧ ∃ N P Q, Hid (WI wr w.heap.size wb a x S 8192 N N P Q) ∧ Hid (Below w.heap.size w wr)) (fun v _ => T.length - (RowKit.intOf v).toNat)
  case atStart => exact ⟨0, Nat.zero_le _, rfl, [], P, Q, I6, X6⟩
  case round =>
    obtain ⟨i, hi, rfl, N, P, Q, I, HQ⟩ := hrel
    clear I6 X6
    by_cases hlt : i < T.length
    rotate_left
    · have hlt' : ¬ (i : Int) < (T.length : Int) := by omega
      go_wp2
      go_ret
      exact ⟨rfl, HQ.out⟩
    have hlt' : (i : Int) < (T.length : Int) := by omega
    rcases HST.out with hT0 | ⟨bt0, ot0, rfl, hbt, hTT⟩
    · rw [hT0] at hlt; cases hlt
    obtain ⟨hcs, hok⟩ := hTT i hlt
    obtain ⟨o, ho⟩ : ∃ o, T[i] = o := ⟨_, rfl⟩
    rw [ho] at hcs hok
    clear ho hTT
    have hcw : ∀ j u, (opA o.z)[j]? = some u → wr.cell? ⟨bt0, ot0 + i * 9 + j, none⟩ = some u := fun j u hu => (HQ.out.cell (p := ⟨bt0, ot0 + i * 9 + j, none⟩) hbt).trans (hcs j u hu)
    have p0 : wr.cell? ⟨bt0, ot0 + i * 9, none⟩ = some (.bool o.z.near) := hcw 0 _ rfl
    have p1 := hcw 1 (.int .i64 o.z.what) rfl
    have p2 := hcw 2 (.int .i64 o.z.f) rfl
    have p3 := hcw 3 (.int .i64 o.z.g) rfl
    have p4 := hcw 4 (.int .i64 o.z.h) rfl
    have p5 := hcw 5 (.int .i64 o.z.l) rfl
    have p6 := hcw 6 (.int .i64 o.z.c) rfl
    have p7 := hcw 7 (.slice o.z.ia o.z.il o.z.ic) rfl
    have p8 := hcw 8 (.slice o.z.ca o.z.cl o.z.cc) rfl
    have NR := hide (near_ok I.out.sd.ra I.out.wk (hok.below HQ.out))
    unfold opA at NR
    have RT : Hid (∀ (e : Ending) (W : World), ((∃ z2 IN2 CS2 l c, e = .returned (.agg (opA z2)) ∧ OpNr W S N o.z z2 IN2 CS2 l c ∧ ∀ b off, z2.ia = some ⟨b, off, none⟩ → wr.heap.size ≤ b) ∧ Below wr.heap.size wr W) → ∃ z2 IN2 CS2 l c, e = .returned (.agg #[.bool z2.near, .int .i64 z2.what, .int .i64 z2.f, .int .i64 z2.g, .int .i64 z2.h, .int .i64 z2.l, .int .i64 z2.c, .slice z2.ia z2.il z2.ic, .slice z2.ca z2.cl z2.cc]) ∧ OpNr W S N o.z z2 IN2 CS2 l c ∧ (∀ b off, z2.ia = some ⟨b, off, none⟩ → wr.heap.size ≤ b) ∧ Below wr.heap.size wr W) := fun e W ⟨⟨z2, IN2, CS2, l, c, h1, h2, h4⟩, h3⟩ => ⟨z2, IN2, CS2, l, c, h1, h2, h4, h3⟩
    have NR2 : Hid (Calls Try.prog 9 #[.pointer (some ⟨wb, 0, none⟩), .agg #[.bool o.z.near, .int .i64 o.z.what, .int .i64 o.z.f, .int .i64 o.z.g, .int .i64 o.z.h, .int .i64 o.z.l, .int .i64 o.z.c, .slice o.z.ia o.z.il o.z.ic, .slice o.z.ca o.z.cl o.z.cc]] wr fun e W => ∃ z2 IN2 CS2 l c, e = .returned (.agg #[.bool z2.near, .int .i64 z2.what, .int .i64 z2.f, .int .i64 z2.g, .int .i64 z2.h, .int .i64 z2.l, .int .i64 z2.c, .slice z2.ia z2.il z2.ic, .slice z2.ca z2.cl z2.cc]) ∧ OpNr W S N o.z z2 IN2 CS2 l c ∧ (∀ b off, z2.ia = some ⟨b, off, none⟩ → wr.heap.size ≤ b) ∧ Below wr.heap.size wr W) := NR.out.mono (fun e W h => RT.out e W h)
    clear hcw hcs hok NR RT
    go_upto_region 18 with (go_at_call 9; refine NR2.out.mono ?_; rintro e w7 ⟨z2, IN2, CS2, l2, c2, rfl, nr, fr, x7⟩; have NRR := hide nr; have FR := hide fr; have X7 := hide x7; clear nr fr x7)
    clear NR2 p0 p1 p2 p3 p4 p5 p6 p7 p8
    have y8 : Below w7.heap.size w7 (w7.alloc (.cells #[.bool z2.near, .int .i64 z2.what, .int .i64 z2.f, .int .i64 z2.g, .int .i64 z2.h, .int .i64 z2.l, .int .i64 z2.c, .slice z2.ia z2.il z2.ic, .slice z2.ca z2.cl z2.cc] 38)) := al (Below.refl _ _) _
    have NBX : Hid (OpBx (w7.alloc (.cells #[.bool z2.near, .int .i64 z2.what, .int .i64 z2.f, .int .i64 z2.g, .int .i64 z2.h, .int .i64 z2.l, .int .i64 z2.c, .slice z2.ia z2.il z2.ic, .slice z2.ca z2.cl z2.cc] 38)) w7.heap.size z2) := heap_alloc_new w7 _
    have X8 := hide (bt X7.out y8 (Nat.le_refl _))
    have I8 := hide (I.out.below X8.out)
    have HQ8 := hide (bt HQ.out X8.out (Nat.le_refl _))
    have NR8 : Hid (OpNr (w7.alloc (.cells #[.bool z2.near, .int .i64 z2.what, .int .i64 z2.f, .int .i64 z2.g, .int .i64 z2.h, .int .i64 z2.l, .int .i64 z2.c, .slice z2.ia z2.il z2.ic, .slice z2.ca z2.cl z2.cc] 38)) S N o.z z2 IN2 CS2 l2 c2) := { NRR.out with ia := NRR.out.ia.below y8, ca := NRR.out.ca.below y8 }
    have FRE : Hid (∀ b off, z2.ia = some ⟨b, off, none⟩ → IN2 ≠ [] → ¬ P b ∧ ¬ Q b) := fun b off e _ => ⟨fun hp => by have h1 := I.out.sd.ca.plt hp; have h2 := FR.out b off e; omega, fun hq => by have h1 := I.out.sd.ra.plt hq; have h2 := FR.out b off e; omega⟩
    have OBN : Hid (∃ ob, ob = w7.heap.size ∧ ¬ P ob ∧ ¬ Q ob) := ⟨_, rfl, fun hp => by have h1 := I.out.sd.ca.plt hp; have h2 := X7.out.size; omega, fun hq => by have h1 := I.out.sd.ra.plt hq; have h2 := X7.out.size; omega⟩
    clear y8 X7 X8 NRR I HQ
    generalize w7.alloc (.cells #[.bool z2.near, .int .i64 z2.what, .int .i64 z2.f, .int .i64 z2.g, .int .i64 z2.h, .int .i64 z2.l, .int .i64 z2.c, .slice z2.ia z2.il z2.ic, .slice z2.ca z2.cl z2.cc] 38) = w8 at *
    obtain ⟨ob, hob, hnp, hnq⟩ := OBN.out
    rw [← hob] at NBX
    try rw [← hob]
    have NPO := hide hnp
    have NQO := hide hnq
    clear hob hnp hnq OBN
    obtain ⟨o0, o1, o2, o3, o4, o5, o6, o7, o8⟩ := (show Bx w8 ob z2.near z2.what z2.f z2.g z2.h z2.l z2.c (.slice z2.ia z2.il z2.ic) (.slice z2.ca z2.cl z2.cc) from NBX.out).cells
    have hBw : w.heap.size ≤ w8.heap.size := HQ8.out.size
    have HBW := hide hBw
    clear hBw
    by_cases hw7 : 7 ≤ z2.what
    · clear o0 o2 o3 o4 o5 o6 o7 o8
      go_wp2
      go_roundw
      case rel => exact ⟨i + 1, by omega, by go_num, N, P, Q, I8, HQ8⟩
      case measure => simp [RowKit.intOf]; omega
    have hw7' : z2.what < 7 := by omega
    obtain ⟨G, hG, hmk⟩ := makes_near I8.out.sd I8.out.wk I8.out.np I8.out.nq NR8.out hw7' FRE.out
    have HMK := hide hmk
    unfold opA at HMK
    have HGE := hide hG
    have GG := hide NR8.out.g
    clear hG hmk FRE hw7'
    go_upto_region 20 with (go_at_call 12; refine HMK.out.mono ?_; rintro e w9 ⟨P9, Q9, rfl, s9, k9, g9, q9, ok9⟩; have ST9 := hide (I8.out.step HBW.out s9 k9 g9 q9); have OK9 := hide ok9; have B9 := hide ((show Bx w8 ob z2.near z2.what z2.f z2.g z2.h z2.l z2.c (.slice z2.ia z2.il z2.ic) (.slice z2.ca z2.cl z2.cc) from NBX.out).kept k9 (fun e => e.elim NPO.out NQO.out)); have NP9 := hide (g9.not (lt_of_block NBX.out) NPO.out); clear s9 k9 g9 q9 ok9)
    clear HMK o0 o1 o2 o3 o4 o5 o6 o7 o8 NBX NPO NQO
    have I9 := hide ST9.out.1
    have HQ9 := hide (HQ8.out.trans ST9.out.2)
    clear ST9 I8 HQ8 NR8
    obtain ⟨gf, hgf⟩ : ∃ gf, G.1 = gf := ⟨_, rfl⟩
    obtain ⟨ge, hge⟩ : ∃ ge, G.2.1 = ge := ⟨_, rfl⟩
    obtain ⟨N9, hN9⟩ : ∃ N9, G.2.2 = N9 := ⟨_, rfl⟩
    unfold GOk at OK9
    rw [hgf, hge, hN9] at OK9
    rw [hge] at HGE
    rw [hN9] at I9
    simp only [hgf, hge]
    clear hgf hge hN9 G
    rcases HGE.out with rfl | rfl
    rotate_left
    · clear HGE
      go_wp2
      go_ret
      exact ⟨rfl, HQ9.out⟩
    clear HGE
    have HGF : Hid (Ex N N9 ∧ hasR N9 gf) := by
      rcases OK9.out with ⟨_, h2, h3⟩ | ⟨h1, _⟩ | ⟨h1, _⟩
      · exact ⟨h2, h3⟩
      · exact absurd h1 (by decide)
      · exact absurd h1 (by decide)
    clear OK9
    obtain ⟨zg, hzg⟩ : ∃ zg, z2.g = zg := ⟨_, rfl⟩
    rw [hzg] at GG B9
    clear hzg
    go_upto_region 24 with fail
    have I10 : Hid (WI w9.drew w.heap.size wb a x S 8192 N9 N9 P9 Q9) := I9.out.below (Below.refl _ _).drew
    have HQ10 : Hid (Below w.heap.size w w9.drew) := HQ9.out.drew
    have u3 : w9.drew.cell? ⟨ob, 3, none⟩ = some (.int .i64 zg) := B9.out.cells.2.2.2.1
    have B10 : Hid (Bx w9.drew ob z2.near z2.what z2.f zg z2.h z2.l z2.c (.slice z2.ia z2.il z2.ic) (.slice z2.ca z2.cl z2.cc)) := B9.out
    refine wp_unt (S := fun V => V.cell? ⟨ob, 3, none⟩ = some (.int .i64 zg)) 9 (by kernel_rfl) ?_
    generalize w9.drew = w10 at *
    clear I9 HQ9 B9
    have HLW := hide (laws_ok I10.out.sd.ca I10.out.wk I10.out.np HGF.out.2 (HGF.out.1.has GG.out) HLL.out)
    refine UntH.take (i := 0) (some 112) rfl rfl (by kernel_rfl) (by kernel_rfl) (by kernel_rfl) (by kernel_rfl) (fun _ _ _ _ h => h) (by rfl) u3 ?_
    apply Exists.intro
    refine ⟨fun w' hw' => ?_, ?_⟩
    · have q0 := hw'
      go_simp
      first | done | rfl
    try simp only [Act.put, List.setIfInBounds_toArray, List.set_cons_zero, List.set_cons_succ]
    refine UntH.take (i := 1) (some 113) rfl rfl (by kernel_rfl) (by kernel_rfl) (by kernel_rfl) (by kernel_rfl) (fun _ _ _ _ h => h) (by rfl) u3 ?_
    apply Exists.intro
    refine ⟨fun w' hw' => ?_, ?_⟩
    · have q0 := hw'
      go_simp
      first | done | rfl
    try simp only [Act.put, List.setIfInBounds_toArray, List.set_cons_zero, List.set_cons_succ]
    refine UntH.take (i := 2) (some 114) rfl rfl (by kernel_rfl) (by kernel_rfl) (by kernel_rfl) (by kernel_rfl) (fun _ _ _ _ h => h) (by rfl) u3 ?_
    apply Exists.intro
    refine ⟨fun w' hw' => ?_, ?_⟩
    · have q0 := hw'
      go_simp
      first | done | rfl
    try simp only [Act.put, List.setIfInBounds_toArray, List.set_cons_zero, List.set_cons_succ]
    refine UntH.take (i := 3) (some 115) rfl rfl (by kernel_rfl) (by kernel_rfl) (by kernel_rfl) (by kernel_rfl) (fun _ _ _ _ h => h) (by rfl) u3 ?_
    apply Exists.intro
    refine ⟨fun w' hw' => ?_, ?_⟩
    · have q0 := hw'
      go_simp
      first | done | rfl
    try simp only [Act.put, List.setIfInBounds_toArray, List.set_cons_zero, List.set_cons_succ]
    refine UntH.take (i := 4) (some 116) rfl rfl (by kernel_rfl) (by kernel_rfl) (by kernel_rfl) (by kernel_rfl) (fun _ _ _ _ h => h) (by rfl) u3 ?_
    apply Exists.intro
    refine ⟨fun w' hw' => ?_, ?_⟩
    · have q0 := hw'
      go_simp
      first | done | rfl
    try simp only [Act.put, List.setIfInBounds_toArray, List.set_cons_zero, List.set_cons_succ]
    refine UntH.take (i := 5) (some 117) rfl rfl (by kernel_rfl) (by kernel_rfl) (by kernel_rfl) (by kernel_rfl) (fun _ _ _ _ h => h) (by rfl) u3 ?_
    apply Exists.intro
    refine ⟨fun w' hw' => ?_, ?_⟩
    · have q0 := hw'
      go_simp
      first | done | rfl
    try simp only [Act.put, List.setIfInBounds_toArray, List.set_cons_zero, List.set_cons_succ]
    refine UntH.take (i := 6) (some 118) rfl rfl (by kernel_rfl) (by kernel_rfl) (by kernel_rfl) (by kernel_rfl) (fun _ _ _ _ h => h) (by rfl) u3 ?_
    apply Exists.intro
    refine ⟨fun w' hw' => ?_, ?_⟩
    · have q0 := hw'
      go_simp
      first | done | rfl
    try simp only [Act.put, List.setIfInBounds_toArray, List.set_cons_zero, List.set_cons_succ]
    refine UntH.step (i := 7) (by kernel_rfl) rfl (fun K hK => ?_)
    go_simp
    refine (PKL.out w10).mono ?_
    rintro e w11 ⟨rfl, hw8⟩
    have hw9 := hw8.symm
    clear hw8
    subst hw9
    go_simp
    refine hK _ _ u3 ?_
    clear hK K
    refine UntH.step (i := 8) (by kernel_rfl) rfl (fun K hK => ?_)
    go_simp
    refine HLW.out.mono ?_
    rintro e w11 ⟨rfl, N11, P11, li⟩
    have LI11 := hide li
    clear li
    have u4 : w11.cell? ⟨ob, 3, none⟩ = some (.int .i64 zg) := (B10.out.kept LI11.out.kp NP9.out).cells.2.2.2.1
    have ST11 := hide (I10.out.laws HQ10.out.size LI11.out)
    go_simp
    refine hK _ _ u4 ?_
    clear hK K HLW
    refine UntH.last (by kernel_rfl) rfl (by kernel_rfl) (by kernel_rfl) (fun K hK => ?_)
    go_simp
    refine hK _ _ ?_
    clear hK K u3 u4 B10 LI11 HGF GG NP9
    have I11 := hide ST11.out.1
    have HQ11 := hide (HQ10.out.trans ST11.out.2)
    clear ST11 I10 HQ10
    have HBK := hide (I11.out.sd.ra.back 0)
    have BK : Hid (∀ e w', BkL N9 0 w11 e w' (fun N' V => RA V x S 8192 N' Q9) Q9 → e = .returned (.int .i64 0) ∧ RA w' x S 8192 [] Q9 ∧ Kept Q9 w11 w') := fun e w' hb => by
      rcases hb with ⟨_, _, h3, h4, h5⟩ | ⟨h1, _⟩
      · exact ⟨h3, h4, h5⟩
      · exact absurd ⟨by omega, by omega⟩ h1
    go_upto_region 28 with (go_at_call 19; refine HBK.out.mono ?_; rintro e w12 hb; obtain ⟨rfl, ra12, k12⟩ := BK.out e w12 hb; have ST12 := hide (I11.out.doc HQ11.out.size ra12 k12 (Gw.refl _ _)); clear hb ra12 k12)
    clear HBK BK
    have I12 := hide ST12.out.1
    have HQ12 := hide (HQ11.out.trans ST12.out.2)
    clear ST12 I11 HQ11
    have hfew : N11.length ≤ 8192 := by have := I12.out.sd.ca.ok.few; omega
    go_wp2
    obtain ⟨wo, hwo⟩ : ∃ wo, wo = wr := ⟨_, rfl⟩
    clear hwo wo
    go_loopw [22] (fun v wr => ∃ j : Nat, j ≤ N11.length ∧ v = .int .i64 ((j : Int) + 2) ∧ ∃ Q, Hid (WI wr w.heap.size wb a x S 8192 N11 (N11.take j) P11 Q) ∧ Hid (Below w.heap.size w wr)) (fun v _ => N11.length + 2 - (RowKit.intOf v).toNat)
    case atStart => exact ⟨0, Nat.zero_le _, rfl, Q9, I12, HQ12⟩
    case round =>
      obtain ⟨j, hj, rfl, Q13, I13, HQ13⟩ := hrel
      clear I12 HQ12
      have LEN := hide I13.out.sd.ca.len
      have hwl : IntKind.i64.wrap ((N11.length : Int) + 2) = (N11.length : Int) + 2 := by simp [IntKind.wrap, IntKind.bits, IntKind.signed]; omega
      by_cases hjl : j < N11.length
      · have hjl' : (j : Int) + 2 < (N11.length : Int) + 2 := by omega
        have ND := hide (I13.out.sd.ca.node ((j : Int) + 2))
        have NDL : Hid (∀ (e : Ending) (W : World), NdL N11 ((j : Int) + 2) wr e W → ∃ (lv : Int) (ks : List Int) (g c : Nat), N11[j]? = some (lv, ks) ∧ e = .returned (.tuple #[.agg #[.int .i64 lv, .slice (some ⟨g, 0, none⟩) ks.length c], .int .i64 0]) ∧ ZBk W g ks ∧ Below wr.heap.size wr W) := fun e W ⟨h1, h2⟩ => by
          rcases h1 with ⟨i, lv, ks, g, c, e1, e2, e3, _, e5, _⟩ | ⟨h1, _⟩
          · have : i = j := by omega
            subst this
            exact ⟨lv, ks, g, c, e1, e3, e5, h2⟩
          · exact absurd ⟨by omega, by omega⟩ h1
        go_upto_region 32 with (first
          | (go_at_call 20; refine LEN.out.mono ?_; rintro e w14 ⟨rfl, hw1⟩; have hw2 := hw1.symm; clear hw1; subst hw2)
          | (go_at_call 21; refine ND.out.mono ?_; rintro e w14 nd; obtain ⟨lv, ks, g, c, hN, rfl, zk, x14⟩ := NDL.out _ _ nd; have HNJ := hide hN; have ZK := hide zk; have X14 := hide x14; clear nd hN zk x14))
        clear ND NDL LEN
        have y15 : Below w14.heap.size w14 (w14.alloc (.cells #[.int .i64 lv, .slice (some ⟨g, 0, none⟩) ks.length c] 58)) := al (Below.refl _ _) _
        have X15 := hide (bt X14.out y15 (Nat.le_refl _))
        have I15 := hide (I13.out.below X15.out)
        have HQ15 := hide (bt HQ13.out X15.out (Nat.le_refl _))
        have c0 : (w14.alloc (.cells #[.int .i64 lv, .slice (some ⟨g, 0, none⟩) ks.length c] 58)).cell? ⟨w14.heap.size, 0, none⟩ = some (.int .i64 lv) := by rw [cell_of_row _ _ _ _ _ _ (heap_alloc_new w14 _)]; rfl
        have c1 : (w14.alloc (.cells #[.int .i64 lv, .slice (some ⟨g, 0, none⟩) ks.length c] 58)).cell? ⟨w14.heap.size, 1, none⟩ = some (.slice (some ⟨g, 0, none⟩) ks.length c) := by rw [cell_of_row _ _ _ _ _ _ (heap_alloc_new w14 _)]; rfl
        have HML := hide (I15.out.sd.ra.make lv (some ⟨g, 0, none⟩) c ks (by have := kids_len I15.out.sd.ca.ok HNJ.out; omega) (ZK.out.below y15).at)
        clear y15 X14 X15 I13 HQ13
        generalize w14.alloc (.cells #[.int .i64 lv, .slice (some ⟨g, 0, none⟩) ks.length c] 58) = w15 at *
        generalize w14.heap.size = yb at *
        have hwj : IntKind.i64.wrap ((j : Int) + 2 + 1) = ((j + 1 : Nat) : Int) + 2 := by simp [IntKind.wrap, IntKind.bits, IntKind.signed]; omega
        go_wp2_with (go_at_call 22; refine HML.out.mono ?_; rintro e w16 ⟨f, er, N16, rfl, mk, Q16, ra16, k16, g16, _⟩; have hn16 := remake I15.out.sd.ca.ok HNJ.out mk; subst hn16; have ST16 := hide (I15.out.doc HQ15.out.size ra16 k16 g16); clear mk ra16 k16 g16)
        have I16 := hide ST16.out.1
        have HQ16 := hide (HQ15.out.trans ST16.out.2)
        go_roundw
        case rel => exact ⟨j + 1, by omega, by first | rfl | go_num, Q16, I16, HQ16⟩
        case measure => simp [RowKit.intOf]; omega
      · have hjl' : ¬ (j : Int) + 2 < (N11.length : Int) + 2 := by omega
        obtain rfl : j = N11.length := by omega
        rw [List.take_length] at I13
        go_wp2_with (go_at_call 20; refine LEN.out.mono ?_; rintro e w14 ⟨rfl, hw1⟩; have hw2 := hw1.symm; clear hw1; subst hw2)
        go_roundw
        case rel => exact ⟨i + 1, by omega, by go_num, N11, P11, Q13, I13, HQ13⟩
        case measure => simp [RowKit.intOf]; omega
end Go.Proofs.Ytaafeflbanoncaa
