/-
  The document's parted by its contract: states numbered anew, and the numbers of pairs all 0 again. Condition: states, parts and columns that are.
-/
import Derived.Test.YtdgoilkgplnhfaaGreatC23
import Derived.Shelf.SlSortCmp.Whole1
import Derived.Test.YtdgoilkgplnhfaaGreatC18
set_option maxRecDepth 100000
set_option maxHeartbeats 16000000
namespace Go.Proofs.YtdgoilkgplnhfaaGreat
open Go.RowKit Go.Lib
def kyP (PL OL NX : List Nat) (W c s : Nat) : Nat := gN PL s * 256 + gN OL (gN NX (s * W + c))
theorem zero_list {L : List Nat} {n : Nat} (hl : L.length = n) (h : ∀ x, gN L x = 0) : L = List.replicate n 0 := by
 rw [List.eq_replicate_iff]
 refine ⟨hl, fun b hb => ?_⟩
 obtain ⟨i, hi, rfl⟩ := List.getElem_of_mem hb
 rw [← gN_lt hi]; exact h i
def zer (n : Nat) : List Nat := List.replicate n 0
theorem zer_len (n : Nat) : (zer n).length = n := List.length_replicate
theorem zer_get (n i : Nat) : gN (zer n) i = 0 := gN_zero n i
structure ZrS (l : List Nat) (key : Nat → Nat) (NU : List Nat) (j : Nat) (N : List Nat) : Prop where
 len : N.length = NU.length
 val : ∀ x, gN N x ≠ 0 → gN NU x ≠ 0 ∧ ∀ i, i < j → key (gN l i) ≠ x
theorem ZrS.next {l NU N : List Nat} {key : Nat → Nat} {j : Nat} (h : ZrS l key NU j N) (hk : key (gN l j) < NU.length) : ZrS l key NU (j + 1) (N.set (key (gN l j)) 0) := by
 refine ⟨by rw [List.length_set]; exact h.len, fun x hx => ?_⟩
 rw [gN_sT (by rw [h.len]; exact hk)] at hx
 by_cases e : x = key (gN l j)
 · rw [if_pos e] at hx; exact absurd rfl hx
 · rw [if_neg e] at hx
   obtain ⟨h1, h2⟩ := h.val x hx
   refine ⟨h1, fun i hi => ?_⟩
   rcases Nat.lt_or_ge i j with h3 | h3
   · exact h2 i h3
   · rw [show i = j by omega]; exact fun h => e h.symm
theorem ZrS.done {l NU N PL : List Nat} {key : Nat → Nat} {k m : Nat} (h : ZrS l key NU l.length N) (hk : KnS l key k PL NU m) (hkl : k ≤ l.length) : ∀ x, gN N x = 0 := fun x => by
 apply Classical.byContradiction
 intro hx
 obtain ⟨h1, h2⟩ := h.val x hx
 obtain ⟨i, h3, h4⟩ := hk.c x h1
 exact h2 i (by omega) h4
theorem prtD_any (bs : By) (na oo la pa oa : Option Addr) (nc ol oc lc pc oc' W c n gn : Nat) (NX l PL OL : List Nat) (R1 : List VR) (w0 w : World) (hxl : NX.length ≤ 16777216) (hn : n ≤ 65536) (hll : l.length ≤ n) (hPL : PL.length = n) (hOL : OL.length = n)
 (hky : ∀ i, i < l.length → gN l i < n ∧ gN l i * W + c < NX.length ∧ gN NX (gN l i * W + c) < n ∧ gN PL (gN l i) < 256 ∧ gN OL (gN NX (gN l i * W + c)) < 256)
 (hF : Fr w0 ((.slice (some ⟨gn, 0, none⟩) 65536 65536, 3, nCells (zer 65536)) :: R1) w)
 (hrd : ∀ V x y NU, Fr w0 (x :: y :: (.slice (some ⟨gn, 0, none⟩) 65536 65536, 3, nCells NU) :: R1) V → NAt V na NX ∧ NAt V la l ∧ NAt V pa PL ∧ NAt V oa OL) :
 Calls Tryz.prog 83 #[auV bs na NX.length nc oo ol oc, .slice la l.length lc, .slice pa n pc, .slice oa n oc', .slice (some ⟨gn, 0, none⟩) 65536 65536, .int .i64 (W : Nat), .int .i64 (c : Nat)] w fun e w' => ∃ og m : Nat, e = .returned (.tuple #[.slice (some ⟨og, 0, none⟩) n n, .int .i64 (m : Nat)]) ∧ ∃ QL : List Nat, Fr w0 ((.slice (some ⟨og, 0, none⟩) n n, 3, nCells QL) :: (.slice (some ⟨gn, 0, none⟩) 65536 65536, 3, nCells (zer 65536)) :: R1) w' ∧ QL.length = n ∧ ∃ NU k, k ≤ l.length ∧ KnS l (kyP PL OL NX W c) k QL NU m ∧ ((m ≤ 256 ∧ k = l.length) ∨ m = 257) := by
 obtain ⟨i3, hi3, hz30, hz31, hz32⟩ := info_parts Tryz.info3n
 have HKY := hide hky
 have HRD := hide hrd
 have F2 := hide (hF.box 24 [.string ⟨bs.toArray⟩, .slice na NX.length nc, .slice oo ol oc] (by simp [maxLen]))
 obtain ⟨key, hkE⟩ : ∃ key, Hid (key = kyP PL OL NX W c) := ⟨_, rfl⟩
 rw [← hkE.out]
 clear hky hrd hF
 unfold auV
 go_enter Tryz.func83, Tryz.ntmps83
 go_upto_region 1 with fail
 obtain ⟨w2, hw2⟩ : ∃ w2, w2 = w.alloc (.cells #[.string ⟨bs.toArray⟩, .slice na NX.length nc, .slice oo ol oc] 24) := ⟨_, rfl⟩
 obtain ⟨bx, hbx⟩ : ∃ bx, bx = w.heap.size := ⟨_, rfl⟩
 rw [← hw2, ← hbx] at F2 ⊢
 clear hw2 hbx
 go_upto_region 2 with (at_make; refine wpList_make_full _ rfl (.tmp 22) (.tmp 22) 22 rfl w0.heap.size 3 i3 (.int .i64 0) 1 Tryz.underlying22 hi3 hz30 hz31 .i64 .i64 _ _ n rfl rfl rfl rfl (by rw [hz32]; omega) (by unfold maxLen; omega) F2.out.bel.size ?_; intro w3 m1 m2; have F3 := hide (F2.out.mkN m1 m2); clear m1 m2)
 obtain ⟨og, hog⟩ : ∃ og, og = w2.heap.size := ⟨_, rfl⟩
 rw [← hog] at F3 ⊢
 clear hog F2
 have K0 : Hid (KnS l key 0 (List.replicate n 0) (zer 65536) 0) := KnS.start (zer_get _)
 go_wp2
 go_loopg [17, 18] (l.length + 1) (fun g x y wr => ∃ (k m : Nat) (QL NU : List Nat), y = .int .i64 (k : Nat) ∧ x = .int .i64 (m : Nat) ∧ k ≤ l.length ∧ m ≤ 257 ∧ Hid (Fr w0 ((.slice (some ⟨og, 0, none⟩) n n, 3, nCells QL) :: (.slice (some ⟨bx, 0, none⟩) 3 3, 24, [.string ⟨bs.toArray⟩, .slice na NX.length nc, .slice oo ol oc]) :: (.slice (some ⟨gn, 0, none⟩) 65536 65536, 3, nCells NU) :: R1) wr) ∧ Hid (KnS l key k QL NU m) ∧ QL.length = n ∧ NU.length = 65536 ∧ l.length - k < g)
 case atStart => exact ⟨0, 0, _, _, rfl, rfl, by omega, by omega, F3, K0, by rw [List.length_replicate], zer_len _, by omega⟩
 case round =>
  obtain ⟨k, m, QL, NU, rfl, rfl, hk1, hm, F, S, hQL, hNU, hg⟩ := hrel
  have HG := hide hg
  clear hg F3 K0
  by_cases hgo : k < l.length ∧ m ≤ 256
  · obtain ⟨hk, hm6⟩ := hgo
    have hk' : (k : Int) < (l.length : Int) := by omega
    have hm' : (m : Int) ≤ 256 := by omega
    obtain ⟨h1, h2, h3, h4, h5⟩ := HKY.out k hk
    obtain ⟨kx, kl, kp, ko⟩ := HRD.out _ _ _ _ F.out
    have c1 := (F.out.slot (i := 1) (by simp) rfl (k := 1) (by simp)).1
    simp only [List.getElem_cons_succ, List.getElem_cons_zero] at c1
    obtain ⟨lb, loff, rfl, -, -⟩ := kl.get hk
    have sl := kl.atG hk
    obtain ⟨pb, poff, rfl, -, -⟩ := kp.get (i := gN l k) (by omega)
    have sp := kp.atG (i := gN l k) (by omega)
    obtain ⟨xb, xoff, rfl, -, -⟩ := kx.get h2
    have sx := kx.atG h2
    obtain ⟨ob, ooff, rfl, -, -⟩ := ko.get (i := gN NX (gN l k * W + c)) (by omega)
    have so := ko.atG (i := gN NX (gN l k * W + c)) (by omega)
    have hke : key (gN l k) = gN PL (gN l k) * 256 + gN OL (gN NX (gN l k * W + c)) := by rw [hkE.out]; rfl
    have HLC : Hid (∀ V x y NU, Fr w0 (x :: y :: (.slice (some ⟨gn, 0, none⟩) 65536 65536, 3, nCells NU) :: R1) V → V.cell? ⟨lb, loff + k, none⟩ = some (.int .i64 ((gN l k : Nat) : Int))) := fun V x y NU F => (HRD.out V x y NU F).2.1.atG hk
    have hqm := S.out.le (key (gN l k))
    have HOLD : Hid (gN NU (key (gN l k)) ≠ 0 → KnS l key (k + 1) (QL.set (gN l k) (gN NU (key (gN l k)) - 1)) NU m) := fun h => S.out.old (by omega) h
    have HNEW : Hid (gN NU (key (gN l k)) = 0 → KnS l key (k + 1) (QL.set (gN l k) m) (NU.set (key (gN l k)) (m + 1)) (m + 1)) := fun h => S.out.new (by omega) (by omega) h
    clear kx kl kp ko
    generalize key (gN l k) = o at *
    generalize gN OL (gN NX (gN l k * W + c)) = q at *
    generalize gN NX (gN l k * W + c) = t at *
    generalize gN PL (gN l k) = p at *
    generalize gN l k = s at *
    have f1 : IntKind.i64.wrap ((s : Int) * (W : Int)) = ((s * W : Nat) : Int) := by rw [show (s : Int) * (W : Int) = ((s * W : Nat) : Int) by simp]; exact w64_n _ (by omega)
    generalize hmm : s * W = y at *
    have f3 : IntKind.i64.wrap ((y : Int) + (c : Int)) = ((y + c : Nat) : Int) := by rw [show (y : Int) + (c : Int) = ((y + c : Nat) : Int) by simp]; exact w64_n _ (by omega)
    have f4 : IntKind.i64.wrap ((p : Int) * 256) = (p : Int) * 256 := by rw [show (p : Int) * 256 = ((p * 256 : Nat) : Int) by simp]; exact w64_n _ (by omega)
    have f5 : IntKind.i64.wrap ((p : Int) * 256 + (q : Int)) = (o : Int) := by rw [show (p : Int) * 256 + (q : Int) = (o : Int) by omega]; exact w64_n _ (by omega)
    have hln : (y : Int) + (c : Int) < (NX.length : Int) := by omega
    have hlz : (0 : Int) ≤ (y : Int) + (c : Int) := by omega
    have hlt : ((y : Int) + (c : Int)).toNat = y + c := by omega
    have hs' : (s : Int) < (n : Int) := by omega
    have ht' : (t : Int) < (n : Int) := by omega
    have hoo : o < 65536 := by omega
    clear hmm hke
    go_wp2
    go_quiet (fail)
    obtain ⟨wq, hwq⟩ : ∃ wq, wq = wr.drewN nq := ⟨_, rfl⟩
    have FQ := hide (F.out.drew nq)
    rw [← hwq] at FQ ⊢
    clear hwq c1 sl sp sx so f1 f3 f4 f5 hln hlz hlt F S
    obtain ⟨s0, s1⟩ := FQ.out.slotN (i := 2) (by simp) rfl (k := o) (by omega)
    obtain ⟨s2, s3⟩ := FQ.out.slotN (i := 0) (by simp) rfl (k := s) (by omega)
    have hoi : (o : Int) < 65536 := by omega
    obtain ⟨q, hq⟩ : ∃ q, Hid (q = gN NU o) := ⟨_, rfl⟩
    rw [← hq.out] at s0 HOLD HNEW hqm
    by_cases hq0 : q = 0
    · subst hq0
      have S2 := hide (HNEW.out rfl)
      have F2 := hide (FQ.out.storeN (i := 2) (by simp) rfl o (m + 1))
      have ec : (((m + 1 : Nat) : Int)) = (m : Int) + 1 := by simp
      rw [ec] at F2
      have f1 : IntKind.i64.wrap ((m : Int) + 1) = (m : Int) + 1 := by rw [← ec]; exact w64_n _ (by omega)
      clear HOLD HNEW
      go_upto_region 10 with fail
      obtain ⟨wu, hwu⟩ : ∃ wu, wu = wq.setCell ⟨gn, o, none⟩ (.int .i64 ((m : Int) + 1)) := ⟨_, rfl⟩
      rw [← hwu] at F2 ⊢
      clear hwu s0 s1 s2 s3 FQ
      have sl := HLC.out wu _ _ _ F2.out
      obtain ⟨s0, _⟩ := F2.out.slotN (i := 2) (by simp) rfl (k := o) (by rw [List.length_set]; omega)
      rw [gN_sT (by omega), if_pos rfl, ec] at s0
      obtain ⟨s2, s3⟩ := F2.out.slotN (i := 0) (by simp) rfl (k := s) (by omega)
      have f2 : IntKind.i64.wrap ((m : Int) + 1 - 1) = (m : Int) := by rw [show (m : Int) + 1 - 1 = (m : Int) by omega]; exact w64_n _ (by omega)
      have F3 := hide ((F2.out.storeN (i := 0) (by simp) rfl s m).below (Below.refl _ _).drew)
      go_region
      all_goals
       go_wp2
       go_roundg (l.length - (k + 1) + 1)
       case measure => have := HG.out; omega
       case rel => exact ⟨k + 1, m + 1, _, _, by first | rfl | go_num | (congr 1; omega), by first | rfl | simp, by omega, by omega, F3, S2, by rw [List.length_set]; exact hQL, by rw [List.length_set]; exact hNU, by omega⟩
    · have hq1 : ((q : Int) == 0) = false := by simp; omega
      have hq2 : ¬ (q : Int) = 0 := by omega
      have S2 := hide (HOLD.out hq0)
      have F3 := hide ((FQ.out.storeN (i := 0) (by simp) rfl s (q - 1)).below (Below.refl _ _).drew)
      have ec : (((q - 1 : Nat) : Int)) = (q : Int) - 1 := by omega
      rw [ec] at F3
      have f1 : IntKind.i64.wrap ((q : Int) - 1) = (q : Int) - 1 := by rw [← ec]; exact w64_n _ (by omega)
      have sl := HLC.out wq _ _ _ FQ.out
      clear HOLD HNEW
      go_upto_region 10 with fail
      go_region
      all_goals
       go_wp2
       go_roundg (l.length - (k + 1) + 1)
       case measure => have := HG.out; omega
       case rel => exact ⟨k + 1, m, _, _, by first | rfl | go_num | (congr 1; omega), rfl, by omega, by omega, F3, S2, by rw [List.length_set]; exact hQL, hNU, by omega⟩
  · have hend : Hid (m ≤ 256 ∧ k = l.length ∨ m = 257) := by
     unfold Hid
     omega
    have Z0 : Hid (ZrS l key NU 0 NU) := ⟨rfl, fun x hx => ⟨hx, fun i hi => by omega⟩⟩
    have HGO : ((k : Int) < (l.length : Int)) ∧ ¬ ((m : Int) ≤ 256) ∨ ¬ ((k : Int) < (l.length : Int)) := by omega
    clear hgo HG
    rcases HGO with ⟨hA, hB⟩ | hA
    all_goals
     go_wp2
     go_loopg [20] (l.length + 1) (fun g y wr => ∃ (j : Nat) (N : List Nat), y = .int .i64 (j : Nat) ∧ j ≤ l.length ∧ Hid (Fr w0 ((.slice (some ⟨og, 0, none⟩) n n, 3, nCells QL) :: (.slice (some ⟨bx, 0, none⟩) 3 3, 24, [.string ⟨bs.toArray⟩, .slice na NX.length nc, .slice oo ol oc]) :: (.slice (some ⟨gn, 0, none⟩) 65536 65536, 3, nCells N) :: R1) wr) ∧ Hid (ZrS l key NU j N) ∧ l.length - j < g)
     case atStart => exact ⟨0, NU, rfl, by omega, F, Z0, by omega⟩
     case round =>
      clear F Z0
      obtain ⟨j, N, rfl, hj1, F, Z, hg⟩ := hrel
      have HG := hide hg
      clear hg
      by_cases hj : j < l.length
      · as_aux_lemma =>
        have hj' : (j : Int) < (l.length : Int) := by omega
        obtain ⟨h1, h2, h3, h4, h5⟩ := HKY.out j hj
        obtain ⟨kx, kl, kp, ko⟩ := HRD.out _ _ _ _ F.out
        have c1 := (F.out.slot (i := 1) (by simp) rfl (k := 1) (by simp)).1
        simp only [List.getElem_cons_succ, List.getElem_cons_zero] at c1
        obtain ⟨lb, loff, rfl, -, -⟩ := kl.get hj
        have sl := kl.atG hj
        obtain ⟨pb, poff, rfl, -, -⟩ := kp.get (i := gN l j) (by omega)
        have sp := kp.atG (i := gN l j) (by omega)
        obtain ⟨xb, xoff, rfl, -, -⟩ := kx.get h2
        have sx := kx.atG h2
        obtain ⟨ob, ooff, rfl, -, -⟩ := ko.get (i := gN NX (gN l j * W + c)) (by omega)
        have so := ko.atG (i := gN NX (gN l j * W + c)) (by omega)
        have hke : key (gN l j) = gN PL (gN l j) * 256 + gN OL (gN NX (gN l j * W + c)) := by rw [hkE.out]; rfl
        have Z2 : Hid (ZrS l key NU (j + 1) (N.set (key (gN l j)) 0)) := Z.out.next (by omega)
        have hNl := Z.out.len
        clear kx kl kp ko
        generalize key (gN l j) = o at *
        generalize gN OL (gN NX (gN l j * W + c)) = q at *
        generalize gN NX (gN l j * W + c) = t at *
        generalize gN PL (gN l j) = p at *
        generalize gN l j = s at *
        have f1 : IntKind.i64.wrap ((s : Int) * (W : Int)) = ((s * W : Nat) : Int) := by rw [show (s : Int) * (W : Int) = ((s * W : Nat) : Int) by simp]; exact w64_n _ (by omega)
        generalize hmm : s * W = y at *
        have f3 : IntKind.i64.wrap ((y : Int) + (c : Int)) = ((y + c : Nat) : Int) := by rw [show (y : Int) + (c : Int) = ((y + c : Nat) : Int) by simp]; exact w64_n _ (by omega)
        have f4 : IntKind.i64.wrap ((p : Int) * 256) = (p : Int) * 256 := by rw [show (p : Int) * 256 = ((p * 256 : Nat) : Int) by simp]; exact w64_n _ (by omega)
        have f5 : IntKind.i64.wrap ((p : Int) * 256 + (q : Int)) = (o : Int) := by rw [show (p : Int) * 256 + (q : Int) = (o : Int) by omega]; exact w64_n _ (by omega)
        have hln : (y : Int) + (c : Int) < (NX.length : Int) := by omega
        have hlz : (0 : Int) ≤ (y : Int) + (c : Int) := by omega
        have hlt : ((y : Int) + (c : Int)).toNat = y + c := by omega
        have hs' : (s : Int) < (n : Int) := by omega
        have ht' : (t : Int) < (n : Int) := by omega
        have hoo : (o : Int) < 65536 := by omega
        obtain ⟨s0, s1⟩ := F.out.slotN (i := 2) (by simp) rfl (k := o) (by omega)
        have F3 := hide ((F.out.storeN (i := 2) (by simp) rfl o 0).below (Below.refl _ _).drew)
        clear hmm hke
        go_wp2
        go_region
        all_goals
         go_wp2
         go_roundg (l.length - (j + 1) + 1)
         case measure => have := HG.out; omega
         case rel => exact ⟨j + 1, _, by first | rfl | go_num | (congr 1; omega), by omega, F3, Z2, by omega⟩
      · as_aux_lemma =>
        obtain rfl : j = l.length := by omega
        have hj' : ¬ (l.length : Int) < (l.length : Int) := by omega
        have HZ : Hid (N = zer 65536) := zero_list (Z.out.len.trans hNU) (Z.out.done S.out hk1)
        have FE := hide F.out.swap.tail
        rw [HZ.out] at FE
        go_wp2
        go_ret2
        exact ⟨og, m, rfl, QL, FE.out, hQL, NU, k, hk1, S.out, hend.out⟩
end Go.Proofs.YtdgoilkgplnhfaaGreat
namespace Go.Proofs
open Go.Shelf
theorem Tryz.sortN : Go.Proofs.SlLaysF.n6 Tryz.prog Tryz.sortI_ren := {
 mixed := by kernel_rfl
 f6 := ⟨Tryz.f135.name, by decide, Tryz.func135.trans (congrArg some (by kernel_rfl))⟩
 f14 := ⟨Tryz.f163.name, by decide, Tryz.func163.trans (congrArg some (by kernel_rfl))⟩
 f15 := Tryz.func128.trans (congrArg some (by kernel_rfl))
 f20 := ⟨Tryz.f171.name, by decide, Tryz.func171.trans (congrArg some (by kernel_rfl))⟩
 f21 := ⟨Tryz.f172.name, by decide, Tryz.func172.trans (congrArg some (by kernel_rfl))⟩
 f22 := ⟨Tryz.f173.name, by decide, Tryz.func173.trans (congrArg some (by kernel_rfl))⟩
 f23 := ⟨Tryz.f174.name, by decide, Tryz.func174.trans (congrArg some (by kernel_rfl))⟩
 f24 := ⟨Tryz.f175.name, by decide, Tryz.func175.trans (congrArg some (by kernel_rfl))⟩
 f25 := ⟨Tryz.f176.name, by decide, Tryz.func176.trans (congrArg some (by kernel_rfl))⟩
 f26 := ⟨Tryz.f177.name, by decide, Tryz.func177.trans (congrArg some (by kernel_rfl))⟩
 f27 := ⟨Tryz.f178.name, by decide, Tryz.func178.trans (congrArg some (by kernel_rfl))⟩
 f28 := Tryz.func158.trans (congrArg some (by kernel_rfl))
 f29 := Tryz.func159.trans (congrArg some (by kernel_rfl))
 f46 := ⟨Tryz.f188.name, by decide, Tryz.func188.trans (congrArg some (by kernel_rfl))⟩
 f47 := Tryz.func167.trans (congrArg some (by kernel_rfl))
 f48 := Tryz.func168.trans (congrArg some (by kernel_rfl))
 f49 := ⟨Tryz.f189.name, by decide, Tryz.func189.trans (congrArg some (by kernel_rfl))⟩
 f50 := ⟨Tryz.f190.name, by decide, Tryz.func190.trans (congrArg some (by kernel_rfl))⟩
 f57 := ⟨Tryz.f194.name, by decide, Tryz.func194.trans (congrArg some (by kernel_rfl))⟩
 t0 := Tryz.underlying0
 a0 := Tryz.isAgg0
 z0 := Tryz.sizeOf0
 v0 := Tryz.zeroValue0
 t3 := Tryz.underlying3
 a3 := Tryz.isAgg3
 z3 := Tryz.sizeOf3
 v3 := Tryz.zeroValue3
 t4 := Tryz.underlying4
 a4 := Tryz.isAgg4
 z4 := Tryz.sizeOf4
 v4 := Tryz.zeroValue4
 t5 := Tryz.underlying5
 a5 := Tryz.isAgg5
 z5 := Tryz.sizeOf5
 v5 := Tryz.zeroValue5
 t9 := Tryz.underlying9
 a9 := Tryz.isAgg9
 z9 := Tryz.sizeOf9
 v9 := Tryz.zeroValue9
 t22 := Tryz.underlying22
 a22 := Tryz.isAgg22
 z22 := Tryz.sizeOf22
 v22 := Tryz.zeroValue22
 a24 := Tryz.isAgg3
 z24 := Tryz.sizeOf3
 t25 := Tryz.underlying59
 a25 := Tryz.isAgg59
 z25 := Tryz.sizeOf59
 v25 := Tryz.zeroValue59
 t39 := Tryz.underlying183
 a39 := Tryz.isAgg183
 z39 := Tryz.sizeOf183
 v39 := Tryz.zeroValue183
 t45 := Tryz.underlying198
 a45 := Tryz.isAgg198
 z45 := Tryz.sizeOf198
 v45 := Tryz.zeroValue198
 t46 := Tryz.underlying199
 a46 := Tryz.isAgg199
 z46 := Tryz.sizeOf199
 v46 := Tryz.zeroValue199
 t50 := Tryz.underlying134
 a50 := Tryz.isAgg134
 z50 := Tryz.sizeOf134
 v50 := Tryz.zeroValue134
 t53 := Tryz.underlying205
 a53 := Tryz.isAgg205
 z53 := Tryz.sizeOf205
 v53 := Tryz.zeroValue205
 t55 := Tryz.underlying207
 a55 := Tryz.isAgg207
 z55 := Tryz.sizeOf207
 v55 := Tryz.zeroValue207
 t66 := Tryz.underlying212
 a66 := Tryz.isAgg212
 z66 := Tryz.sizeOf212
 v66 := Tryz.zeroValue212
 t70 := Tryz.underlying216
 a70 := Tryz.isAgg216
 z70 := Tryz.sizeOf216
 v70 := Tryz.zeroValue216
 t76 := Tryz.underlying228
 a76 := Tryz.isAgg228
 z76 := Tryz.sizeOf228
 v76 := Tryz.zeroValue228
 t77 := Tryz.underlying229
 a77 := Tryz.isAgg229
 z77 := Tryz.sizeOf229
 v77 := Tryz.zeroValue229 }
end Go.Proofs
namespace Go.Proofs.YtdgoilkgplnhfaaGreat
open Go.RowKit Go.Lib Go.Sort
def orZ (a c : Int) : Int := if a = 0 then c else a
theorem or_any (b cap : Nat) (a c : Int) (w : World) (h0 : w.cell? ⟨b, 0, none⟩ = some (.int .i64 a)) (h1 : w.cell? ⟨b, 1, none⟩ = some (.int .i64 c)) :
 Calls Tryz.prog 137 #[.slice (some ⟨b, 0, none⟩) 2 cap] w fun e w' => e = .returned (.int .i64 (orZ a c)) ∧ w' = w := by
 have HC : Hid (∀ i, i < 2 → w.cell? ⟨b, i, none⟩ = some (.int .i64 (if i = 0 then a else c))) := fun i hi => by
  match i, hi with
  | 0, _ => simpa using h0
  | 1, _ => simpa using h1
 clear h0 h1
 go_enter Tryz.func137, Tryz.ntmps137
 go_wp2
 go_loopg [8] 3 (fun g x wr => ∃ i : Nat, x = .int .i64 (i : Nat) ∧ i ≤ 2 ∧ Hid ((1 ≤ i → a = 0) ∧ (2 ≤ i → c = 0)) ∧ wr = w ∧ 2 - i < g)
 case atStart => exact ⟨0, rfl, by omega, ⟨fun h => by omega, fun h => by omega⟩, rfl, by omega⟩
 case round =>
  obtain ⟨i, rfl, hi2, HZ, rfl, hg⟩ := hrel
  have HG := hide hg
  clear hg
  by_cases hi : i < 2
  · have hi' : (i : Int) < 2 := by omega
    have ci := HC.out i hi
    obtain ⟨z, hz⟩ : ∃ z, z = (if i = 0 then a else c) := ⟨_, rfl⟩
    rw [← hz] at ci
    have HZZ := hide hz
    clear hz
    by_cases hzz : z = 0
    · have hzz' : ¬ ¬ z = 0 := fun h => h hzz
      go_wp2
      go_roundg (2 - (i + 1) + 1)
      case measure => have := HG.out; omega
      case rel =>
       refine ⟨i + 1, by first | rfl | go_num | (congr 1; omega), by omega, ⟨fun _ => ?_, fun h => ?_⟩, rfl, by omega⟩
       · by_cases e : i = 0
         · have := HZZ.out; rw [if_pos e] at this; rw [← this]; exact hzz
         · exact HZ.out.1 (by omega)
       · have := HZZ.out; rw [if_neg (by omega)] at this; rw [← this]; exact hzz
    · go_wp2
      go_ret
      refine ⟨?_, rfl⟩
      have := HZZ.out
      unfold orZ
      by_cases e : i = 0
      · rw [if_pos e] at this; subst this; rw [if_neg hzz]; rfl
      · rw [if_neg e] at this; subst this; rw [if_pos (HZ.out.1 (by omega))]; rfl
  · have hi' : ¬ (i : Int) < 2 := by omega
    go_wp2
    go_ret
    have h1 := HZ.out.1 (by omega)
    have h2 := HZ.out.2 (by omega)
    refine ⟨?_, rfl⟩
    unfold orZ
    rw [if_pos h1, h2]; rfl
theorem cmp129 (a b : Int) (W : World) : Calls Tryz.prog 129 #[.int .i64 a, .int .i64 b] W fun e w' => e = .returned (.int .i64 (Lib.compareInt a b)) ∧ w' = W := AnyG.cmp_Compare_int Tryz.cmpInt a b W
def cfO (OU : List Nat) (x y : Nat) : Int := orZ (Lib.compareInt (gN OU x : Int) (gN OU y : Int)) (Lib.compareInt (x : Int) (y : Int))
theorem cmp136_any (oa : Option Addr) (oc cb x y : Nat) (OU : List Nat) (w : World) (hx : x < OU.length) (hy : y < OU.length) (hcb : w.cell? ⟨cb, 0, none⟩ = some (.slice oa OU.length oc)) (hcl : cb < w.heap.size) (hat : NAt w oa OU) :
 Calls Tryz.prog 136 #[.int .i64 (x : Nat), .int .i64 (y : Nat), .pointer (some ⟨cb, 0, none⟩)] w fun e w' => e = .returned (.int .i64 (cfO OU x y)) ∧ ∃ q os', w' = grow (w.drewN q) os' := by
 obtain ⟨ob, off, rfl, hob, c1⟩ := hat.get hx
 obtain ⟨_, _, e0, _, c2⟩ := hat.get hy
 simp only [Option.some.injEq, Addr.mk.injEq, and_true] at e0
 obtain ⟨rfl, rfl⟩ := e0
 rw [← gN_lt hx] at c1
 rw [← gN_lt hy] at c2
 have x' : (x : Int) < (OU.length : Int) := by omega
 have y' : (y : Int) < (OU.length : Int) := by omega
 have H129 := hide cmp129
 unfold cfO
 clear hat
 generalize gN OU x = a at *
 generalize gN OU y = b at *
 have B1 := heap_alloc_new w (.cells #[.int .i64 (Lib.compareInt (a : Int) (b : Int)), .int .i64 (Lib.compareInt (x : Int) (y : Int))] 3)
 have HOR := hide (or_any w.heap.size 2 (Lib.compareInt (a : Int) (b : Int)) (Lib.compareInt (x : Int) (y : Int)) (w.alloc (.cells #[.int .i64 (Lib.compareInt (a : Int) (b : Int)), .int .i64 (Lib.compareInt (x : Int) (y : Int))] 3)).drew (by show (w.alloc (.cells #[.int .i64 (Lib.compareInt (a : Int) (b : Int)), .int .i64 (Lib.compareInt (x : Int) (y : Int))] 3)).cell? _ = _; rw [cell_of_row _ _ _ _ _ _ B1]; rfl) (by show (w.alloc (.cells #[.int .i64 (Lib.compareInt (a : Int) (b : Int)), .int .i64 (Lib.compareInt (x : Int) (y : Int))] 3)).cell? _ = _; rw [cell_of_row _ _ _ _ _ _ B1]; rfl))
 have n1 : ¬ cb = w.heap.size := by omega
 have n2 : ¬ ob = w.heap.size := by omega
 clear B1
 go_enter Tryz.func136, Tryz.ntmps136
 go_wp2
 go_region_held3 (fun w' => w'.cell? ⟨cb, 0, none⟩ = some (.slice (some ⟨ob, off, none⟩) OU.length oc) ∧ w'.cell? ⟨ob, off + x, none⟩ = some (.int .i64 (a : Int)) ∧ w'.cell? ⟨ob, off + y, none⟩ = some (.int .i64 (b : Int))) (first | assumption | exact ⟨hcb, c1, c2⟩ | (simp [go_sem, *]; done))
  ((first
    | (go_at_call 129; refine (H129.out _ _ _).mono ?_; rintro e w' ⟨rfl, rfl⟩)
    | (go_at_call 137; refine HOR.out.mono ?_; rintro e w' ⟨rfl, rfl⟩)))
 all_goals
  go_wp2
  go_ret
  exact ⟨rfl, 1, #[.cells #[.int .i64 (Lib.compareInt (a : Int) (b : Int)), .int .i64 (Lib.compareInt (x : Int) (y : Int))] 3 (0, 0)], by rw [alloc_eq_grow]; rfl⟩
theorem cmpInt_lt (a b : Int) : (Lib.compareInt a b < 0 ↔ a < b) ∧ (Lib.compareInt a b = 0 ↔ a = b) := by
 unfold Lib.compareInt
 by_cases h1 : a < b
 · simp [h1]; omega
 · by_cases h2 : b < a
   · simp [h1, h2]; omega
   · simp [h1, h2]; omega
theorem cfO_lt (OU : List Nat) (x y : Nat) : cfO OU x y < 0 ↔ (gN OU x < gN OU y ∨ (gN OU x = gN OU y ∧ x < y)) := by
 unfold cfO orZ
 have h1 := cmpInt_lt (gN OU x : Int) (gN OU y : Int)
 have h2 := cmpInt_lt (x : Int) (y : Int)
 by_cases e : Lib.compareInt (gN OU x : Int) (gN OU y : Int) = 0
 · rw [if_pos e, h2.1]
   have := h1.2.1 e
   omega
 · rw [if_neg e, h1.1]
   have : ¬ (gN OU x : Int) = (gN OU y : Int) := fun h => e (h1.2.2 h)
   omega
theorem ltO (n : Nat) (OU : List Nat) (x y : Fin n) : ltOf (fun x y : Fin n => cfO OU x.val y.val) x y = decide (gN OU x.val < gN OU y.val ∨ (gN OU x.val = gN OU y.val ∧ x.val < y.val)) := by
 unfold ltOf
 simp only [cfO_lt]
theorem swoO (n : Nat) (OU : List Nat) : SWO (ltOf fun x y : Fin n => cfO OU x.val y.val) where
 irrefl x := by rw [ltO]; simp
 trans x y z h1 h2 := by rw [ltO] at *; simp only [decide_eq_true_eq] at *; omega
 ntrans x y z h1 h2 := by rw [ltO] at *; simp only [decide_eq_false_iff_not] at *; omega
section
variable {α : Type} [Inhabited α]
theorem heap_sorted (enc : α → Value) {w : World} {g n : Nat} {os : Array Obj} {cur : Array Value} {e : TypeId} {fr : Nat × Nat} (d : Array α) (hb : w.heap[g]? = some (.cells cur e fr)) : (sortWorld enc w g 0 n d os).heap[g]? = some (.cells (putCells enc 0 d cur) e fr) := by
 have hg : g < w.heap.size := (Array.getElem?_eq_some_iff.1 hb).1
 unfold sortWorld
 rw [heap_grow_old _ _ (by simpa using hg)]
 simp [putRow, mapBlock, Sort.ahead, Array.getElem?_modify, hb, onCells]
theorem kept_sorted (enc : α → Value) {w : World} {g n : Nat} {os : Array Obj} (d : Array α) : Kept (fun b => b = g) w (sortWorld enc w g 0 n d os) := by
 refine ⟨rfl, rfl, rfl, by simp [sortWorld], fun k hk hne => ?_⟩
 unfold sortWorld
 rw [heap_grow_old _ _ (by simpa using hk)]
 have : g ≠ k := fun e => hne e.symm
 simp [putRow, mapBlock, Sort.ahead, Array.getElem?_modify, this]
theorem take_put (enc : α → Value) (cur : Array Value) (d : Array α) (h : d.size ≤ cur.size) : (putCells enc 0 d cur).toList.take d.size = d.toList.map enc := by
 apply List.ext_getElem?
 intro j
 by_cases hj : j < d.size
 · rw [List.getElem?_take_of_lt hj, Array.getElem?_toList]
   simp [putCells, hj, show j < cur.size by omega]
 · rw [List.getElem?_take_eq_none (by omega), List.getElem?_eq_none (by simp; omega)]
end
theorem enters136 : ∀ args w, (callFunc 136 args).run Tryz.prog w = .ok (.enter 136 args) w := enters_of Tryz.func136 (by kernel_rfl) rfl
theorem sortO_any {n : Nat} (w : World) (base pb lg lc cb oc : Nat) (oa : Option Addr) (pv ov rv : Value) (L P O OU : List Nat) (R : List Rm) (h : PrM w base pb (.slice (some ⟨lg, 0, none⟩) n lc) pv ov rv L P O R) (hl : L.length = n) (hL : ∀ j, j < n → gN L j = j) (hou : OU.length = n) (hn0 : 0 < n) (hn : n ≤ 65536) (hcb : w.cell? ⟨cb, 0, none⟩ = some (.slice oa OU.length oc)) (hcl : cb < w.heap.size) (hcn : ¬ cb = lg) (hat : NAt w oa OU) (hon : ∀ b off, oa = some ⟨b, off, none⟩ → ¬ b = lg) :
 Calls Tryz.prog 135 #[.slice (some ⟨lg, 0, none⟩) n lc, .func (.func 136) #[] #[.pointer (some ⟨cb, 0, none⟩)]] w fun e w' => e = .returned (.tuple #[]) ∧ ∃ L', LsS n OU L' ∧ PrM w' base pb (.slice (some ⟨lg, 0, none⟩) n lc) pv ov rv L' P O R ∧ Kept (fun b => b = lg) w w' := by
 have inst : Inhabited (Fin n) := ⟨⟨0, hn0⟩⟩
 have oL : w.ownsRow base 3 1 (.slice (some ⟨lg, 0, none⟩) n lc) L.length (nCells L) := h.rws.own 0 (by simp)
 rw [hl] at oL
 have hlg := (World.ownsRow.lt oL lg rfl)
 obtain ⟨cur, hcur, hcs, hc1, hc2⟩ : ∃ cur, w.heap[lg]? = some (.cells cur 3 (0, 0)) ∧ cur.size = lc ∧ n ≤ lc ∧ lc ≤ maxLen := by
  rcases oL.2 with ⟨e, _⟩ | ⟨g', cap', cur, hv, _, h3, h4, h5, h6, _⟩
  · cases e
  · injection hv with e1 _ e3
    injection e1 with e1
    injection e1 with e1 _ _
    subst e1 e3
    exact ⟨cur, h3, by omega, h4, h5⟩
 have hH : Holds (fun i : Fin n => Value.int .i64 ((i.val : Nat) : Int)) w lg 0 (Array.ofFn (fun i : Fin n => i)) := by
  intro j hj
  have hj' : j < n := by simpa using hj
  refine ⟨?_, oL.frozenAt _⟩
  rw [Nat.zero_add, oL.cellAt j (by omega), nCells_get L j (by omega), ← gN_lt (show j < L.length by omega), hL j hj']
  simp [hj']
 have hcmp : CmpLays1 Tryz.prog 136 #[.pointer (some ⟨cb, 0, none⟩)] (fun i : Fin n => Value.int .i64 ((i.val : Nat) : Int)) (fun x y : Fin n => cfO OU x.val y.val) lg 0 (Array.ofFn (fun i : Fin n => i)).size w := fun m os dk _ x y => by
  have k := kept_sorted (fun i : Fin n => Value.int .i64 ((i.val : Nat) : Int)) (w := w) (g := lg) (n := m) (os := os) dk
  exact cmp136_any oa oc cb x.val y.val OU _ (by rw [hou]; exact x.isLt) (by rw [hou]; exact y.isLt) ((k.cell (p := ⟨cb, 0, none⟩) hcl hcn).trans hcb) (Nat.lt_of_lt_of_le hcl k.size) (hat.kept k hon)
 have hcon := Any.slices_SortFunc Tryz.sortN (fun i : Fin n => Value.int .i64 ((i.val : Nat) : Int)) (fun _ => rfl) (fun x y : Fin n => cfO OU x.val y.val) (swoO n OU) 136 #[.pointer (some ⟨cb, 0, none⟩)] lg 0 lc (Array.ofFn (fun i : Fin n => i)) w enters136 hcmp hH hlg.2 (by simp; omega)
 change Calls Tryz.prog 135 _ _ _ at hcon
 simp only [Array.size_ofFn] at hcon
 refine hcon.mono ?_
 rintro e w' ⟨rfl, d', m, os, hp, hs, rfl⟩
 have hsz : d'.size = n := by simpa using hp.1
 have hperm : d'.toList.Perm (List.finRange n) := by
  have h2 := hp.2.2
  have e0 : ∀ k, k = d'.size → (d'.extract 0 k).toList = d'.toList := fun k hk => by subst hk; simp
  have e1 := e0 n hsz.symm
  have e2 : ((Array.ofFn (fun i : Fin n => i)).extract 0 n).toList = List.finRange n := by
   simp [List.finRange]
   exact List.take_of_length_le (by simp)
  rw [e1, e2] at h2
  exact h2
 have hgL : ∀ i, (hi : i < n) → gN (d'.toList.map Fin.val) i = (d'[i]'(by omega)).val := fun i hi => by
  rw [gN_lt (by simp; omega)]
  simp
 have k := kept_sorted (fun i : Fin n => Value.int .i64 ((i.val : Nat) : Int)) (w := w) (g := lg) (n := m) (os := os) d'
 refine ⟨rfl, d'.toList.map Fin.val, ⟨by simp [hsz], fun i hi => ?_, fun i hi j hj e => ?_, fun s hs' => ?_, fun i j hij hj => ?_⟩, ?_, k⟩
 · rw [hgL i hi]; exact (d'[i]'(by omega)).isLt
 · rw [hgL i hi, hgL j hj] at e
   have hnd : d'.toList.Nodup := hperm.nodup_iff.2 (List.nodup_finRange n)
   have e' : d'[i]'(by omega) = d'[j]'(by omega) := Fin.ext e
   have hpw := List.pairwise_iff_getElem.1 hnd
   rcases Nat.lt_trichotomy i j with h1 | h1 | h1
   · exact absurd (by rw [Array.getElem_toList, Array.getElem_toList]; exact e') (hpw i j _ _ h1)
   · exact h1
   · exact absurd (by rw [Array.getElem_toList, Array.getElem_toList]; exact e'.symm) (hpw j i _ _ h1)
 · have : (⟨s, hs'⟩ : Fin n) ∈ d'.toList := hperm.mem_iff.2 (List.mem_finRange _)
   obtain ⟨i, hi, e⟩ := List.mem_iff_getElem.1 this
   have hi' : i < n := by simpa [hsz] using hi
   refine ⟨i, hi', ?_⟩
   rw [hgL i hi']
   have : d'[i]'(by omega) = ⟨s, hs'⟩ := by simpa using e
   rw [this]
 · by_cases e : i = j
   · rw [e]; exact Nat.le_refl _
   · have hlt := hs i j (Nat.zero_le _) (by omega) hj
     rw [ltO] at hlt
     simp only [decide_eq_false_iff_not] at hlt
     rw [hgL i (by omega), hgL j hj]
     have a1 : d'[i]! = d'[i]'(by omega) := by simp [show i < d'.size by omega]
     have a2 : d'[j]! = d'[j]'(by omega) := by simp [show j < d'.size by omega]
     rw [a1, a2] at hlt
     omega
 · have oL' : OwnN (sortWorld (fun i : Fin n => Value.int .i64 ((i.val : Nat) : Int)) w lg 0 m d' os) base (.slice (some ⟨lg, 0, none⟩) n lc) (d'.toList.map Fin.val) := by
    unfold OwnN
    have hc := heap_sorted (fun i : Fin n => Value.int .i64 ((i.val : Nat) : Int)) (n := m) (os := os) d' hcur
    refine ⟨by simp [nCells], .inr ⟨lg, lc, _, by simp [hsz], hlg.1, hc, by simp [hsz]; omega, hc2, by simp [putCells, hcs], ?_⟩⟩
    have := take_put (fun i : Fin n => Value.int .i64 ((i.val : Nat) : Int)) cur d' (by omega)
    simp only [List.length_map, Array.length_toList, Nat.mul_one]
    rw [this]
    simp [nCells]
   have oR : w.ownsRow base 164 3 rv R.length (rCells R) := h.own
   refine ⟨(k.block pb (lt_of_block h.blk) (fun e => h.notpb lg (.inl rfl) e.symm)).trans h.blk, h.ge, h.rws.upd (i := 0) (by simp) oL' k (fun b hb => by rw [hb]; rfl) (fun b hb => .inl hb), own_kept h.own k (fun b hb e => own_ne oR (show w.ownsRow base 3 1 (.slice (some ⟨lg, 0, none⟩) n lc) n (nCells L) from oL) (by decide) b hb (by rw [e]; rfl))⟩
end Go.Proofs.YtdgoilkgplnhfaaGreat
