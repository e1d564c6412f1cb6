/-
  build by its contract. Condition: a diagram of at most 65536 roots.
-/
import Derived.Test.YtnddhkhmbjeefaaP31
import Derived.Test.YtnddhkhmbjeefaaP23
import Derived.Test.YtnddhkhmbjeefaaP20
import Derived.Test.YtnddhkhmbjeefaaP06
namespace Go.Proofs.Ytnddhkhmbjeefaa
open Go.RowKit Go.Lib Go.Maps

/-- What build leaves. -/
def BuL (S : List Int) (M : Int) (R : List Int) (Ls : List LA) (w : World) (e : Ending) (w' : World) : Prop :=
  (((kidsF (ins (ledS S (ordL Ls)) M) [] (R.map (rowF (ordL Ls) (layL Ls)))).2.1 = 0 ∧ ∃ a g c P, e = .returned (.tuple #[.pointer (some ⟨a, 0, none⟩), .slice (some ⟨g, 0, none⟩) R.length c, .int .i64 0]) ∧ RwZ w' g (kidsF (ins (ledS S (ordL Ls)) M) [] (R.map (rowF (ordL Ls) (layL Ls)))).1 ∧ CA w' a (ledS S (ordL Ls)) M (kidsF (ins (ledS S (ordL Ls)) M) [] (R.map (rowF (ordL Ls) (layL Ls)))).2.2 (kidsF (ins (ledS S (ordL Ls)) M) [] (R.map (rowF (ordL Ls) (layL Ls)))).2.2.length P ∧ (∀ k, P k → w.heap.size ≤ k) ∧ ¬ P g ∧ w.heap.size ≤ g) ∨
   ((kidsF (ins (ledS S (ordL Ls)) M) [] (R.map (rowF (ordL Ls) (layL Ls)))).2.1 ≠ 0 ∧ e = .returned (.tuple #[.pointer none, .slice none 0 0, .int .i64 (kidsF (ins (ledS S (ordL Ls)) M) [] (R.map (rowF (ordL Ls) (layL Ls)))).2.1]))) ∧ Below w.heap.size w w'
/-- What the second loop of build keeps: k roots so far. -/
structure Bd2 (wb wr : World) (x : BdA) (S : List Int) (M : Int) (R : List Int) (Ls : List LA) (rk k : Nat) (ks : List Int) (N1 : List Nd) (V1 : Nat → List Int) (P1 : Nat → Prop) : Prop where
  bd : BdX wr wb.heap.size x S M Ls N1 V1 P1
  rt : RwZ wr rk (ks ++ List.replicate (R.length - k) 0)
  len : ks.length = k
  kf : kidsF (ins (ledS S (ordL Ls)) M) [] ((R.take k).map (rowF (ordL Ls) (layL Ls))) = (ks, 0, N1)
  np : ¬ P1 rk
  bel : Below wb.heap.size wb wr
section
variable {w : World} {B lb lc rc : Nat} {ra : Option Addr} {R : List Int} {Ls : List LA} {S : List Int} {M : Int}
set_option maxRecDepth 100000 in
set_option maxHeartbeats 4000000 in
theorem build_any (hS : SzOk S) (hW : Wf S (layL Ls)) (hLn : Ls.length = S.length) (h0 : 0 ≤ M) (h1 : M ≤ 8192) (D : DgX w B ra lb lc R Ls) (hR : ∀ r ∈ R, inW (layL Ls) r) (hRl : R.length ≤ 65536) (hrl : ∀ y ∈ Ls, y.Rs.length ≤ 16777217) :
    Calls Try.prog 34 #[dgV ra R.length rc lb Ls.length lc, .int .i64 M] w fun e w' => BuL S M R Ls w e w' := by
  obtain ⟨i22, hi22, hz220, hz221, hz222⟩ := info_parts Try.info22
  have hl12 : Ls.length ≤ 12 := by rw [hLn]; exact hS.le
  have X1 : Hid (Below w.heap.size w (w.alloc (.cells #[.slice ra R.length rc, .slice (some ⟨lb, 0, none⟩) Ls.length lc] 70))) := al (Below.refl _ _) _
  have D1 : Hid ((w.alloc (.cells #[.slice ra R.length rc, .slice (some ⟨lb, 0, none⟩) Ls.length lc] 70)).heap[w.heap.size]? = some (.cells #[.slice ra R.length rc, .slice (some ⟨lb, 0, none⟩) Ls.length lc] 70 (0, 0))) := heap_alloc_new w _
  have eSO : Hid ((Ls.map fun y => szL S y.lv) = ledS S (ordL Ls)) := by unfold Hid; simp [ledS, ordL, LA.lay]
  have SOK : Hid (SzOk (ledS S (ordL Ls))) := ledS_ok hS (hW.ord (by rw [List.length_map]; exact hLn))
  have SOL : Hid ((ledS S (ordL Ls)).length = Ls.length) := by unfold Hid; rw [ledS, List.length_map, List.length_map, List.length_map]
  have HD := hide ((D.below (X1.out.mono D.hB)).mono (Nat.le_trans D.hB X1.out.size) (Nat.le_refl _))
  have HW := hide hW
  have HSZ := hide hS
  have HRI := hide hR
  have HRL := hide hrl
  have HLN := hide hLn
  clear D hW hS hR hrl hLn
  go_enter Try.func34, Try.ntmps34
  go_upto_region 1 with fail
  have SZB : Hid (w.heap.size < (w.alloc (.cells #[.slice ra R.length rc, .slice (some ⟨lb, 0, none⟩) Ls.length lc] 70)).heap.size) := lt_of_block D1.out
  generalize w.alloc (.cells #[.slice ra R.length rc, .slice (some ⟨lb, 0, none⟩) Ls.length lc] 70) = wb at *
  have BXA : Hid (∀ V, Below wb.heap.size wb V → V.cell? ⟨w.heap.size, 0, none⟩ = some (.slice ra R.length rc) ∧ V.cell? ⟨w.heap.size, 1, none⟩ = some (.slice (some ⟨lb, 0, none⟩) Ls.length lc)) := fun V y => by
    have b := (y.block _ SZB.out).trans D1.out
    exact ⟨by rw [cell_of_row V _ _ _ _ _ b]; rfl, by rw [cell_of_row V _ _ _ _ _ b]; rfl⟩
  obtain ⟨d0, d1⟩ := BXA.out wb (Below.refl _ _)
  go_upto_region 2 with (go_at_call 62; refine (dsizes_any HSZ.out hl12 HW.out HD.out).mono ?_; rintro en w1 ⟨sb, rfl, hz, hsb, hb⟩; have HZ := hide hz; have HSB := hide hsb; have HB1 := hide hb; clear hz hsb hb)
  rw [eSO.out] at HZ
  clear d0 d1
  have CN := hide (new_any (some ⟨sb, 0, none⟩) Ls.length (ledS S (ordL Ls)) M w1 (by rw [SOL.out]; omega) HZ.out.zbk.at)
  rw [SOL.out] at CN
  go_upto_region 5 with (go_at_call 21; refine CN.out.mono ?_; rintro en w2 ⟨hor, hb⟩; obtain ⟨a, P, rfl, hca, hpa⟩ : ∃ a P, en = .returned (.tuple #[.pointer (some ⟨a, 0, none⟩), .int .i64 0]) ∧ CA w2 a (ledS S (ordL Ls)) M [] 0 P ∧ ∀ k, P k → w1.heap.size ≤ k := (by rcases hor with ⟨_, _, _, a, P, h3, h4, h5⟩ | ⟨h3, _⟩; (exact ⟨a, P, h3, h4, h5⟩); (exact absurd ⟨SOK.out, h0, h1⟩ h3)); have HCA := hide hca; have HPA := hide hpa; have HB2 := hide hb; clear hor hca hpa hb)
  have Y2 := hide (bt HB1.out HB2.out (Nat.le_refl _))
  have Z2 := hide (HZ.out.below HB2.out)
  obtain ⟨d0, d1⟩ := BXA.out w2 Y2.out
  have X3 : Hid (Below w2.heap.size w2 (w2.alloc (.cells #[.pointer (some ⟨a, 0, none⟩), .slice (some ⟨lb, 0, none⟩) Ls.length lc, .slice (some ⟨sb, 0, none⟩) Ls.length Ls.length, .slice none 0 0] 122))) := al (Below.refl _ _) _
  obtain ⟨d2, d3⟩ := BXA.out _ (bt Y2.out X3.out (Nat.le_refl _))
  have ST : Hid (Bd1 w2 (w2.alloc (.cells #[.pointer (some ⟨a, 0, none⟩), .slice (some ⟨lb, 0, none⟩) Ls.length lc, .slice (some ⟨sb, 0, none⟩) Ls.length Ls.length, .slice none 0 0] 122)) ⟨w2.heap.size, a, lb, lc, sb, Ls.length, 0, 0, fun _ => 0, fun _ => 0⟩ Ls 0 (.slice none 0 0) (fun _ => 0)) := ⟨heap_alloc_new w2 _, World.ownsRow_nil _ _ _ _, fun i hi => by omega, fun i hi => by omega, fun i j hi => by omega, X3.out, Nat.le_refl _⟩
  go_upto_region 7 with fail
  have SBL : Hid (sb < w1.heap.size) := HZ.out.lt
  have SW1 : Hid (wb.heap.size ≤ w1.heap.size) := HB1.out.size
  clear d0 d1 d2 d3 CN X3 HB1 HB2 HZ
  generalize w2.alloc (.cells #[.pointer (some ⟨a, 0, none⟩), .slice (some ⟨lb, 0, none⟩) Ls.length lc, .slice (some ⟨sb, 0, none⟩) Ls.length Ls.length, .slice none 0 0] 122) = w3 at *
  go_loopw [35] (fun v wr => ∃ k : Nat, k ≤ Ls.length ∧ v = .int .i64 (k : Int) ∧ ∃ ma mc mr, Hid (Bd1 w2 wr ⟨w2.heap.size, a, lb, lc, sb, Ls.length, 0, 0, fun _ => 0, fun _ => 0⟩ Ls k (.slice ma k mc) mr)) (fun v _ => Ls.length - (RowKit.intOf v).toNat)
  case atStart => exact ⟨0, Nat.zero_le _, rfl, none, 0, _, ST⟩
  case round =>
    obtain ⟨k, hk, rfl, ma, mc, mr, B1⟩ := hrel
    clear ST
    by_cases hlk : k < Ls.length
    · have hlk' : (k : Int) < (Ls.length : Int) := by omega
      obtain ⟨y, hyk⟩ : ∃ y, Ls[k] = y := ⟨_, rfl⟩
      have LR := HD.out.lay.below (bt Y2.out B1.out.bel (Nat.le_refl _))
      have cc := LR.cl k hlk
      rw [hyk, Nat.zero_add] at cc
      obtain ⟨o1, o2⟩ := cc
      have hyl : y.Rs.length ≤ 16777217 := HRL.out y (by rw [← hyk]; exact List.getElem_mem _)
      have HYL : Hid ((lensL Ls).getD k 0 = y.Rs.length) := by
        unfold Hid
        rw [← hyk]
        simp [lensL, List.getD_eq_getElem?_getD, List.getElem?_map, List.getElem?_eq_getElem hlk]
      clear LR hyk
      go_upto_region 9 with fail
      have X4 : Hid (Below wr.heap.size wr (wr.alloc (.cells #[.int .i64 y.lv, .slice (some ⟨y.rb, 0, none⟩) y.Rs.length y.rc] 105)).drew) := (al (Below.refl _ _) _).drew
      have bx : Hid ((wr.alloc (.cells #[.int .i64 y.lv, .slice (some ⟨y.rb, 0, none⟩) y.Rs.length y.rc] 105)).drew.heap[wr.heap.size]? = some (.cells #[.int .i64 y.lv, .slice (some ⟨y.rb, 0, none⟩) y.Rs.length y.rc] 105 (0, 0))) := heap_alloc_new wr _
      have N1 := hide (B1.out.below X4.out)
      have HSB2 : Hid (∀ (V : World), Bd1 w2 V ⟨w2.heap.size, a, lb, lc, sb, Ls.length, 0, 0, fun _ => 0, fun _ => 0⟩ Ls k (.slice ma k mc) mr → V.heap[wr.heap.size]? = some (.cells #[.int .i64 y.lv, .slice (some ⟨y.rb, 0, none⟩) y.Rs.length y.rc] 105 (0, 0)) → V.cell? ⟨w2.heap.size, 3, none⟩ = some (.slice ma k mc) ∧ V.cell? ⟨wr.heap.size, 1, none⟩ = some (.slice (some ⟨y.rb, 0, none⟩) y.Rs.length y.rc)) := fun V hN hb => ⟨by rw [cell_of_row V _ _ _ _ _ hN.blk]; rfl, by rw [cell_of_row V _ _ _ _ _ hb]; rfl⟩
      refine wp_unt (S := fun V => V.cell? ⟨w2.heap.size, 3, none⟩ = some (.slice ma k mc) ∧ V.cell? ⟨wr.heap.size, 1, none⟩ = some (.slice (some ⟨y.rb, 0, none⟩) y.Rs.length y.rc)) 9 (by kernel_rfl) ?_
      generalize (wr.alloc (.cells #[.int .i64 y.lv, .slice (some ⟨y.rb, 0, none⟩) y.Rs.length y.rc] 105)).drew = wd at *
      generalize wr.heap.size = xb at *
      clear o1 o2 B1
      have HS0 := hide (HSB2.out _ N1.out bx.out)
      have hmk := make_ints y.Rs.length (y.Rs.length : Int) rfl hyl
      refine UntH.take (i := 0) (some 39) rfl rfl (by kernel_rfl) (by kernel_rfl) (by kernel_rfl) (by kernel_rfl) (fun _ _ _ _ h => h) (by rfl) HS0.out ?_
      apply Exists.intro
      refine ⟨fun w' hw' => ?_, ?_⟩
      · obtain ⟨q0, q1⟩ := hw'
        go_simp
        first | done | rfl
      try simp only [Act.put, List.setIfInBounds_toArray, List.set_cons_zero, List.set_cons_succ]
      refine UntH.take (i := 1) (some 40) rfl rfl (by kernel_rfl) (by kernel_rfl) (by kernel_rfl) (by kernel_rfl) (fun _ _ _ _ h => h) (by rfl) HS0.out ?_
      apply Exists.intro
      refine ⟨fun w' hw' => ?_, ?_⟩
      · obtain ⟨q0, q1⟩ := hw'
        go_simp
        first | done | rfl
      try simp only [Act.put, List.setIfInBounds_toArray, List.set_cons_zero, List.set_cons_succ]
      refine UntH.take (i := 2) (some 41) rfl rfl (by kernel_rfl) (by kernel_rfl) (by kernel_rfl) (by kernel_rfl) (fun _ _ _ _ h => h) (by rfl) HS0.out ?_
      apply Exists.intro
      refine ⟨fun w' hw' => ?_, ?_⟩
      · obtain ⟨q0, q1⟩ := hw'
        go_simp
        first | done | rfl
      try simp only [Act.put, List.setIfInBounds_toArray, List.set_cons_zero, List.set_cons_succ]
      refine UntH.take (i := 3) (some 42) rfl rfl (by kernel_rfl) (by kernel_rfl) (by kernel_rfl) (by kernel_rfl) (fun _ _ _ _ h => h) (by rfl) HS0.out ?_
      apply Exists.intro
      refine ⟨fun w' hw' => ?_, ?_⟩
      · obtain ⟨q0, q1⟩ := hw'
        go_simp
        first | done | rfl
      try simp only [Act.put, List.setIfInBounds_toArray, List.set_cons_zero, List.set_cons_succ]
      refine UntH.take (i := 4) (some 43) rfl rfl (by kernel_rfl) (by kernel_rfl) (by kernel_rfl) (by kernel_rfl) (fun _ _ _ _ h => h) (by rfl) HS0.out ?_
      apply Exists.intro
      refine ⟨fun w' hw' => ?_, ?_⟩
      · obtain ⟨q0, q1⟩ := hw'
        go_simp
        first | done | rfl
      try simp only [Act.put, List.setIfInBounds_toArray, List.set_cons_zero, List.set_cons_succ]
      have y2 : Below wd.heap.size wd (wd.alloc (.cells (zC (List.replicate y.Rs.length 0)).toArray 3)) := al (Below.refl _ _) _
      have N2 := hide (N1.out.below y2)
      have Z3 : Hid (RwZ (wd.alloc (.cells (zC (List.replicate y.Rs.length 0)).toArray 3)) wd.heap.size (List.replicate y.Rs.length 0)) := heap_alloc_new wd _
      have bx2 : Hid ((wd.alloc (.cells (zC (List.replicate y.Rs.length 0)).toArray 3)).heap[xb]? = some (.cells #[.int .i64 y.lv, .slice (some ⟨y.rb, 0, none⟩) y.Rs.length y.rc] 105 (0, 0))) := (y2.block xb (lt_of_block bx.out)).trans bx.out
      have HS2 := hide (HSB2.out _ N2.out bx2.out)
      have XY2 := hide y2
      refine UntH.step (i := 5) (by kernel_rfl) rfl (fun K hK => ?_)
      go_simp
      refine hK _ _ HS2.out ?_
      clear hK K y2 hmk
      try simp only [Act.put, List.setIfInBounds_toArray, List.set_cons_zero, List.set_cons_succ]
      generalize wd.alloc (.cells (zC (List.replicate y.Rs.length 0)).toArray 3) = we at *
      have y3 : Below we.heap.size we (we.alloc (.cells #[.slice (some ⟨wd.heap.size, 0, none⟩) y.Rs.length y.Rs.length] 22)) := al (Below.refl _ _) _
      have N3 := hide (N2.out.below y3)
      have Z4 := hide (Z3.out.below y3)
      have XY3 := hide (bt XY2.out y3 (Nat.le_refl _))
      have bx3 : Hid ((we.alloc (.cells #[.slice (some ⟨wd.heap.size, 0, none⟩) y.Rs.length y.Rs.length] 22)).heap[xb]? = some (.cells #[.int .i64 y.lv, .slice (some ⟨y.rb, 0, none⟩) y.Rs.length y.rc] 105 (0, 0))) := (y3.block xb (lt_of_block bx2.out)).trans bx2.out
      have HS3 := hide (HSB2.out _ N3.out bx3.out)
      have HNW := hide (one_new we (.slice (some ⟨wd.heap.size, 0, none⟩) y.Rs.length y.Rs.length) 22)
      refine UntH.step (i := 6) (by kernel_rfl) rfl (fun K hK => ?_)
      go_simp
      refine hK _ _ HS3.out ?_
      clear hK K y3 N2 Z3 bx2 HS2 XY2
      generalize we.alloc (.cells #[.slice (some ⟨wd.heap.size, 0, none⟩) y.Rs.length y.Rs.length] 22) = wf at *
      refine UntH.step (i := 7) (by kernel_rfl) rfl (fun K hK => ?_)
      refine step_append_lies _ (by rfl) (.tmp 40) (.tmp 45) 47 (by rfl) w2.heap.size 22 i22 (.slice none 0 0) 1 24 Try.underlying47 hi22 hz220 hz221 hz222 rfl (by decide) _ k _ (by rfl) N3.out.row ⟨we.heap.size, 0, none⟩ 1 1 [.slice (some ⟨wd.heap.size, 0, none⟩) y.Rs.length y.Rs.length] (by rfl) (by rfl) HNW.out (by simp [Value.oneCell']) (by decide) (by unfold maxLen; omega) (by omega) N3.out.bel.size _ rfl ?_
      intro g8 cap8 w8 h1 h2 h3 h4
      have O8 := hide h1
      have G8 := hide h2
      have kp8 : Hid (∀ {c : Nat} {cs : Array Value} {tt : TypeId}, wf.heap[c]? = some (.cells cs tt (0, 0)) → tt ≠ 22 → w8.heap[c]? = some (.cells cs tt (0, 0))) := fun {c cs tt} hc htt => ((kept_of_grown h2).block c (lt_of_block hc) (fun hz => by
        obtain ⟨cs', h5⟩ := own_ty N3.out.row _ hz
        exact ty_ne hc h5 htt rfl)).trans hc
      have B8 := hide (kp8.out N3.out.blk (by decide))
      have bx8 := hide (kp8.out bx3.out (by decide))
      have HS8 : Hid (w8.cell? ⟨w2.heap.size, 3, none⟩ = some (.slice ma k mc) ∧ w8.cell? ⟨xb, 1, none⟩ = some (.slice (some ⟨y.rb, 0, none⟩) y.Rs.length y.rc)) := ⟨by rw [cell_of_row _ _ _ _ _ _ B8.out]; rfl, by rw [cell_of_row _ xb _ _ _ _ bx8.out]; rfl⟩
      have f8 := frozen_of_row w8 w2.heap.size 3 _ _ B8.out
      refine hK _ _ HS8.out ?_
      clear hK K h1 h2 h3 h4 kp8
      refine UntH.take (i := 8) (some 47) rfl rfl (by kernel_rfl) (by kernel_rfl) (by kernel_rfl) (by kernel_rfl) (fun _ _ _ _ h => h) (by rfl) HS8.out ?_
      apply Exists.intro
      refine ⟨fun w' hw' => ?_, ?_⟩
      · obtain ⟨q0, q1⟩ := hw'
        go_simp
        first | done | rfl
      have q8 := HS8.out.1
      refine UntH.last (by kernel_rfl) rfl (by kernel_rfl) (by kernel_rfl) (fun K hK => ?_)
      go_simp
      refine hK _ _ ?_
      clear hK K q8 f8 HS8 HS3 HS0
      have FIN := hide (N1.out.step (nb := wd.heap.size) (Nat.le_refl _) XY3.out (by rw [HYL.out]; exact Z4.out) (by rw [HYL.out]; exact O8.out) G8.out)
      clear O8 G8 B8 bx8 bx3 N3 Z4 XY3 HNW N1 HSB2 bx X4 HYL
      generalize w8.setCell ⟨w2.heap.size, 3, none⟩ (.slice (some ⟨g8, 0, none⟩) (k + 1) cap8) = w9 at *
      go_wp2
      go_roundw
      case rel => exact ⟨k + 1, by omega, by go_num, _, _, _, FIN⟩
      case measure => simp [RowKit.intOf]; omega
    · have hlk' : ¬ (k : Int) < (Ls.length : Int) := by omega
      obtain rfl : k = Ls.length := by omega
      have hn0 : 0 < Ls.length := by have := HSZ.out.ge; have := HLN.out; omega
      obtain ⟨mb, rfl, bdx⟩ := B1.out.bdx (B := wb.heap.size) hn0 Y2.out.size (HD.out.lay.below Y2.out) Z2.out.zbk (fun hp => by have := HPA.out _ hp; have := SBL.out; omega) HCA.out (fun k hp => Nat.le_trans SW1.out (HPA.out k hp))
      have BDX := hide bdx
      have YR := hide (bt Y2.out B1.out.bel (Nat.le_refl _))
      obtain ⟨d0, d1⟩ := BXA.out wr YR.out
      have hmk := make_ints R.length (R.length : Int) rfl (by omega)
      have X5 : Hid (Below wr.heap.size wr (wr.alloc (.cells (zC (List.replicate R.length 0)).toArray 3))) := al (Below.refl _ _) _
      obtain ⟨d2, d3⟩ := BXA.out _ (bt YR.out X5.out (Nat.le_refl _))
      have Z5 : Hid (RwZ (wr.alloc (.cells (zC (List.replicate R.length 0)).toArray 3)) wr.heap.size (List.replicate R.length 0)) := heap_alloc_new wr _
      have NPR : Hid (¬ P wr.heap.size) := fun hp => absurd (bdx.ar.plt hp) (Nat.lt_irrefl _)
      have LOW : Hid (BdLow _ Ls.length wr.heap.size) := bdx.lts
      have LOB : Hid (wb.heap.size ≤ wr.heap.size) := bdx.hB
      clear bdx B1
      go_upto_region 13 with fail
      clear d0 d1 d2 d3 hmk
      have ST2 := hide (Bd2.mk (wb := wb) (R := R) (k := 0) (ks := []) (BDX.out.below X5.out) Z5.out rfl rfl NPR.out (bt YR.out X5.out (Nat.le_refl _)))
      clear BDX YR X5 Z5 NPR
      generalize wr.alloc (.cells (zC (List.replicate R.length 0)).toArray 3) = w5 at *
      generalize wr.heap.size = rk at *
      obtain ⟨x, hx⟩ : ∃ x : BdA, x = ⟨w2.heap.size, a, lb, lc, sb, Ls.length, mb, mc, mr, fun i => (lensL Ls).getD i 0⟩ := ⟨_, rfl⟩
      rw [← hx] at LOW ST2
      have HXB : Hid (x.b = w2.heap.size) := by unfold Hid; rw [hx]
      have HXA : Hid (x.a = a) := by unfold Hid; rw [hx]
      clear hx
      go_wp2
      go_loopw [56] (fun v wr => ∃ k : Nat, k ≤ R.length ∧ v = .int .i64 (k : Int) ∧ ∃ ks N1 V1 P1, Hid (Bd2 wb wr x S M R Ls rk k ks N1 V1 P1)) (fun v _ => R.length - (RowKit.intOf v).toNat)
      case atStart => exact ⟨0, Nat.zero_le _, rfl, [], [], _, P, ST2⟩
      case round =>
        obtain ⟨k, hk, rfl, ks, N1, V1, P1, B2⟩ := hrel
        clear ST2
        by_cases hlk : k < R.length
        · have hlk' : (k : Int) < (R.length : Int) := by omega
          obtain ⟨b0, off, ⟨hra, hoff⟩, hb0, hcl⟩ := HD.out.rts.resolve_left (fun e => by rw [e] at hlk; cases hlk)
          clear hoff
          subst hra
          have q1 := (B2.out.bel.cell (p := ⟨b0, off + k, none⟩) hb0).trans (hcl k hlk)
          have HIN : Hid (inW (layL Ls) R[k]) := HRI.out _ (List.getElem_mem hlk)
          clear hcl
          go_upto_region 15 with fail
          clear q1
          obtain ⟨t, ht⟩ : ∃ t : Nat, R[k] = (t : Int) := ⟨(R[k]).toNat, by have := HIN.out.1; omega⟩
          have CS := hide (put_any HSZ.out HW.out HLN.out Ls.length 0 (by omega) wr N1 V1 P1 t B2.out.bd (by rw [List.drop_zero, ← ht]; exact HIN.out))
          unfold PuL at CS
          rw [List.drop_zero, ← ht, HXB.out] at CS
          clear ht
          have HOT := ins_out (l := 0) B2.out.bd.ar.ok (Nat.zero_le _) (rowF_hang (A := []) (T := layL Ls) HW.out rfl (x := R[k]))
          obtain ⟨f, er, N2, hz⟩ : ∃ f er N2, ins (ledS S (ordL Ls)) M N1 (rowF (ordL Ls) (layL Ls) R[k]) = (f, er, N2) := ⟨_, _, _, rfl⟩
          have HSN := hide (kids_snoc _ _ _ _ B2.out.kf (rowF (ordL Ls) (layL Ls) R[k]))
          have eT : (R.take (k + 1)).map (rowF (ordL Ls) (layL Ls)) = (R.take k).map (rowF (ordL Ls) (layL Ls)) ++ [rowF (ordL Ls) (layL Ls) R[k]] := by rw [List.take_succ_eq_append_getElem hlk, List.map_append]; rfl
          rw [hz, ← eT] at HSN
          rw [hz] at CS
          have NF : Hid (¬ BdF x Ls.length P1 rk) := fun hF => by
            rcases hF with hF | ⟨q, hq, e⟩
            · exact B2.out.np hF
            · have := LOW.out.2.2.2 q hq
              omega
          clear hz HOT eT
          have BEL6 : Hid (∀ w6, Kept (BdF x Ls.length P1) wr w6 → Below wb.heap.size wb w6) := fun w6 hk6 => B2.out.bel.trans (hk6.below B2.out.bel.size (fun z hz => by
            rcases hz with hz | ⟨q, hq, rfl⟩
            · exact B2.out.bd.hi z hz
            · exact (B2.out.bd.mB q hq).1))
          by_cases her : er = 0
          · subst her
            have HSN2 : Hid (kidsF (ins (ledS S (ordL Ls)) M) [] ((R.take (k + 1)).map (rowF (ordL Ls) (layL Ls))) = (ks ++ [f], 0, N2)) := by
              have := HSN.out
              rw [if_pos rfl] at this
              exact this
            clear HSN
            go_wp2_with (go_at_call 63; refine CS.out.mono ?_; rintro en w6 ⟨rfl, V2, P2, hb, hk6, hn6⟩; have BD6 := hide hb; have KP6 := hide hk6; have PN6 := hide hn6; have RT6 := hide (B2.out.rt.kept hk6 NF.out); have rt6 := RT6.out.cell (k := k) (by simp; have := B2.out.len; omega); have rf6 := RT6.out.fro k; clear hb hk6 hn6)
            have hp6 : ¬ P2 rk := fun hp => by
              rcases PN6.out rk hp with h3 | h3
              · exact B2.out.np h3
              · have := B2.out.rt.lt
                omega
            have k7 : Kept (fun z => z = rk) w6 (w6.setCell ⟨rk, k, none⟩ (.int .i64 f)) := Kept.setCell (F := fun z => z = rk) (p := ⟨rk, k, none⟩) (Kept.refl _ _) rfl _
            have b6 := BEL6.out w6 KP6.out
            have hsn := HSN2.out
            have B3 := hide (Bd2.mk (BD6.out.out LOW.out LOB.out k7 (fun z hz => by rw [hz]; exact ⟨Nat.le_refl _, hp6⟩)) (RT6.out.next B2.out.len hlk) (by rw [List.length_append, B2.out.len]; rfl) hsn hp6 (b6.trans (k7.below b6.size (fun z hz => by rw [hz]; exact LOB.out))))
            clear k7 b6 hsn hp6
            go_roundw
            case rel => exact ⟨k + 1, by omega, by go_num, _, _, _, _, B3⟩
            case measure => simp [RowKit.intOf]; omega
          · have HST : Hid (kidsF (ins (ledS S (ordL Ls)) M) [] (R.map (rowF (ordL Ls) (layL Ls))) = ([], er, N2)) := by
              have h3 := HSN.out
              rw [if_neg her] at h3
              have h4 := kids_stop _ _ _ _ her h3 ((R.drop (k + 1)).map (rowF (ordL Ls) (layL Ls)))
              rw [← List.map_append, List.take_append_drop] at h4
              exact h4
            clear HSN
            go_wp2_with (go_at_call 63; refine CS.out.mono ?_; rintro en w6 ⟨rfl, V2, P2, hb, hk6, hn6⟩; have BD6 := hide hb; have KP6 := hide hk6; have PN6 := hide hn6; have RT6 := hide (B2.out.rt.kept hk6 NF.out); have rt6 := RT6.out.cell (k := k) (by simp; have := B2.out.len; omega); have rf6 := RT6.out.fro k; clear hb hk6 hn6)
            refine bodyPost_ret (v := .tuple #[.pointer none, .slice none 0 0, .int .i64 er]) (by simp [results, Try.results34, go_sem]; try rfl) rfl ?_
            have k7 : Kept (fun z => z = rk) w6 (w6.setCell ⟨rk, k, none⟩ (.int .i64 f)) := Kept.setCell (F := fun z => z = rk) (p := ⟨rk, k, none⟩) (Kept.refl _ _) rfl _
            have b6 := BEL6.out w6 KP6.out
            have b7 := b6.trans (k7.below b6.size (fun z hz => by rw [hz]; exact LOB.out))
            unfold BuL
            rw [HST.out]
            exact ⟨.inr ⟨her, rfl⟩, bt X1.out b7 (Nat.le_refl _)⟩
        · have hlk' : ¬ (k : Int) < (R.length : Int) := by omega
          obtain rfl : k = R.length := by omega
          go_wp2
          refine bodyPost_ret (v := .tuple #[.pointer (some ⟨a, 0, none⟩), .slice (some ⟨rk, 0, none⟩) R.length R.length, .int .i64 0]) (by simp [results, Try.results34, go_sem]; try rfl) rfl ?_
          have hk := B2.out.kf
          rw [List.take_length] at hk
          have hr := B2.out.rt
          rw [Nat.sub_self, List.replicate_zero, List.append_nil] at hr
          have har := B2.out.bd.ar
          rw [HXA.out] at har
          unfold BuL
          rw [hk]
          exact ⟨.inl ⟨rfl, a, rk, R.length, P1, rfl, hr, har, fun q hq => Nat.le_trans X1.out.size (B2.out.bd.hi q hq), B2.out.np, Nat.le_trans X1.out.size LOB.out⟩, bt X1.out B2.out.bel (Nat.le_refl _)⟩
end
end Go.Proofs.Ytnddhkhmbjeefaa
/-
  areThere, sizeOf, isPoint by their contracts. Condition: lists no longer than a process can hold.
-/
namespace Go.Proofs.Ytnddhkhmbjeefaa
open Go.RowKit Go.Lib Go.Maps

section
variable {w : World} {a : Nat} {S : List Int} {M : Int} {N : List Nd} {m : Nat} {P : Nat → Prop}
set_option maxRecDepth 100000 in
set_option maxHeartbeats 1000000 in
theorem areThere_any (ao : Option Addr) (cap : Nat) (A : List Int) (hl : A.length ≤ 140737488351232) (hz : ZAt w ao A) (h : CA w a S M N m P) :
    Calls Try.prog 43 #[.pointer (some ⟨a, 0, none⟩), .slice ao A.length cap] w fun e w' => TellB (∀ f ∈ A, hasR N f) e ∧ Below w.heap.size w w' := by
  have HH := hide h
  have HZ := hide hz
  clear h hz
  go_enter Try.func43, Try.ntmps43
  go_wp2
  go_loopw [11] (fun x wr => ∃ k : Nat, k ≤ A.length ∧ x = .int .i64 k ∧ Hid (∀ i, i < k → hasR N (A.getD i 0)) ∧ Hid (Below w.heap.size w wr)) (fun x _ => A.length - (RowKit.intOf x).toNat)
  case atStart => exact ⟨0, Nat.zero_le _, rfl, fun i h => by omega, Below.refl _ _⟩
  case round =>
    obtain ⟨k, hk, rfl, HE, HQ⟩ := hrel
    by_cases hlt : k < A.length
    · have hlt' : (k : Int) < A.length := by omega
      obtain ⟨b1, o1, rfl, hb1, g1⟩ := HZ.out.get hlt
      have q1 := (HQ.out.cell (p := ⟨b1, o1 + k, none⟩) hb1).trans g1
      clear g1
      have HM : Hid (A.getD k 0 ∈ A) := getD_mem hlt
      have HE2 : Hid (hasR N (A.getD k 0) → ∀ i, i < k + 1 → hasR N (A.getD i 0)) := fun p i hi => by
        rcases Nat.lt_or_ge i k with h | h
        · exact HE.out i h
        · obtain rfl : i = k := by omega
          exact p
      clear HE
      generalize A.getD k 0 = x at *
      have HA := hide ((HH.out.below HQ.out).has x)
      have HI := hide (hasN_iff (f := x) N (n := N.length) rfl)
      cases hb : hasN N.length x
      · rw [hb] at HA
        have HD : Hid (¬ ∀ f ∈ A, hasR N f) := fun h => by
          have := h x HM.out
          rw [← HI.out, hb] at this
          cases this
        clear hb
        go_wp2_with (go_at_call 53; refine HA.out.mono ?_; rintro e w1 ⟨rfl, hw1⟩; have hw2 := hw1.symm; clear hw1; subst hw2)
        go_ret
        exact ⟨TellB.no HD.out, HQ.out⟩
      · rw [hb] at HA
        have HE3 := hide (HE2.out (HI.out.1 hb))
        clear hb HE2
        go_wp2_with (go_at_call 53; refine HA.out.mono ?_; rintro e w1 ⟨rfl, hw1⟩; have hw2 := hw1.symm; clear hw1; subst hw2)
        go_roundw
        case rel => exact ⟨k + 1, by omega, by go_num, HE3, HQ⟩
        case measure => simp [RowKit.intOf]; omega
    · have hlt' : ¬ (k : Int) < A.length := by omega
      have HD : Hid (∀ f ∈ A, hasR N f) := all_of_getD (fun i hi => HE.out i (by omega))
      go_wp2
      go_ret
      exact ⟨TellB.yes HD.out, HQ.out⟩
def szQ (S : List Int) (lv : Int) : Int := if 0 ≤ lv ∧ lv < (S.length : Int) then S.getD lv.toNat 0 else 0
/-- Classes of a point. -/
structure PtL (S : List Int) (A : List Int) : Prop where
  len : A.length = S.length
  each : ∀ i, i < A.length → 0 ≤ A.getD i 0 ∧ A.getD i 0 < S.getD i 0
set_option maxRecDepth 100000 in
set_option maxHeartbeats 1000000 in
theorem isPoint_ok (ao : Option Addr) (cap : Nat) (A : List Int) (hA : PtL S A) (hz : ZAt w ao A) (h : CA w a S M N m P) :
    Calls Try.prog 44 #[.pointer (some ⟨a, 0, none⟩), .slice ao A.length cap] w fun e w' => e = .returned (.bool true) ∧ Below w.heap.size w w' := by
  have HS := hide h.sizes
  have hs12 := h.ok.sz.le
  have HP := hide hA
  have HZ := hide hz
  have hlen := hA.len
  rw [← hlen] at HS hs12
  have HL := hide hlen
  clear h hz hA hlen
  go_enter Try.func44, Try.ntmps44
  go_upto_region 2 with (go_at_call 17; refine HS.out.mono ?_; rintro e w1 ⟨⟨g, c, rfl, o1, z1, l1⟩, x1⟩; have X1 := hide x1; have Z1 := hide z1; clear o1 z1 l1 x1)
  clear HS
  go_wp2
  go_loopw [17] (fun x wr => ∃ k : Nat, k ≤ A.length ∧ x = .int .i64 k ∧ Hid (Below w1.heap.size w1 wr)) (fun x _ => A.length - (RowKit.intOf x).toNat)
  case atStart => exact ⟨0, Nat.zero_le _, rfl, Below.refl _ _⟩
  case round =>
    obtain ⟨k, hk, rfl, HQ⟩ := hrel
    by_cases hlt : k < A.length
    · have hlt' : (k : Int) < A.length := by omega
      obtain ⟨b1, o1, rfl, hb1, g1⟩ := (HZ.out.below X1.out).get hlt
      have q1 := (HQ.out.cell (p := ⟨b1, o1 + k, none⟩) hb1).trans g1
      have q2 := (Z1.out.below HQ.out).cell (i := k) (by rw [← HL.out]; exact hlt)
      obtain ⟨p0, p1⟩ := HP.out.each k hlt
      clear g1
      generalize A.getD k 0 = x at *
      generalize S.getD k 0 = y at *
      have p0' : ¬ x < 0 := by omega
      have p1' : ¬ y ≤ x := by omega
      go_wp2
      go_roundw
      case rel => exact ⟨k + 1, by omega, by go_num, HQ⟩
      case measure => simp [RowKit.intOf]; omega
    · have hlt' : ¬ (k : Int) < A.length := by omega
      go_wp2
      go_ret
      exact ⟨rfl, bt X1.out HQ.out (Nat.le_refl _)⟩
end
end Go.Proofs.Ytnddhkhmbjeefaa
