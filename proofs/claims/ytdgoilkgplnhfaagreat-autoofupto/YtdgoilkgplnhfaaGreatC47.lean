/-
  The statements' book: both lists of an automaton are taken. Condition: few lists.
-/
import Derived.Test.YtdgoilkgplnhfaaGreatC43
set_option maxRecDepth 100000
set_option maxHeartbeats 16000000
namespace Go.Proofs.YtdgoilkgplnhfaaGreat
open Go.RowKit Go.Lib
theorem takesA_any (bs : By) (xa oa : Option Addr) (xn xc on oc bk : Nat) (w0 w : World) (lv : Value) (L : List Value) (hl : L.length ≤ 1000) (hF : Fr w0 [(lv, 22, L), (.slice (some ⟨bk, 0, none⟩) 2 2, 37, [lv, .slice none 0 0])] w) :
 Calls Tryz.prog 18 #[.pointer (some ⟨bk, 0, none⟩), auV bs xa xn xc oa on oc] w fun e w' => e = .returned (.tuple #[]) ∧ ∃ lv', Fr w0 [(lv', 22, L ++ [.slice xa xn xc, .slice oa on oc]), (.slice (some ⟨bk, 0, none⟩) 2 2, 37, [lv', .slice none 0 0])] w' := by
 obtain ⟨i22, hi22, hz220, hz221, hz222⟩ := info_parts Tryz.info22n
 have F1 := hide (hF.box 24 [.string ⟨bs.toArray⟩, .slice xa xn xc, .slice oa on oc] (by simp [maxLen]))
 obtain ⟨w1, hw1⟩ : ∃ w1, w1 = w.alloc (.cells #[.string ⟨bs.toArray⟩, .slice xa xn xc, .slice oa on oc] 24) := ⟨_, rfl⟩
 obtain ⟨bx, hbx⟩ : ∃ bx, bx = w.heap.size := ⟨_, rfl⟩
 have F1 : Hid (Fr w0 [(.slice (some ⟨bx, 0, none⟩) 3 3, 24, [.string ⟨bs.toArray⟩, .slice xa xn xc, .slice oa on oc]), (lv, 22, L), (.slice (some ⟨bk, 0, none⟩) 2 2, 37, [lv, .slice none 0 0])] w1) := by rw [hw1, hbx]; exact F1.out
 clear hF
 unfold auV
 go_enter Tryz.func18, Tryz.ntmps18
 go_upto_region 1 with fail
 rw [← hw1, ← hbx]
 clear hw1 hbx
 have FD : Hid (Fr w0 [(.slice (some ⟨bx, 0, none⟩) 3 3, 24, [.string ⟨bs.toArray⟩, .slice xa xn xc, .slice oa on oc]), (lv, 22, L), (.slice (some ⟨bk, 0, none⟩) 2 2, 37, [lv, .slice none 0 0])] w1.drew) := F1.out.below (Below.refl _ _).drew
 obtain ⟨S, HSE⟩ : ∃ S : World → Prop, Hid (∀ V, S V ↔ ∃ lv' L', Fr w0 [(.slice (some ⟨bx, 0, none⟩) 3 3, 24, [.string ⟨bs.toArray⟩, .slice xa xn xc, .slice oa on oc]), (lv', 22, L'), (.slice (some ⟨bk, 0, none⟩) 2 2, 37, [lv, .slice none 0 0])] V) := ⟨_, fun _ => Iff.rfl⟩
 have HRD : Hid (∀ V, S V → V.cell? ⟨bk, 0, none⟩ = some lv ∧ V.cell? ⟨bx, 1, none⟩ = some (.slice xa xn xc) ∧ V.cell? ⟨bx, 2, none⟩ = some (.slice oa on oc)) := fun V hV => by
  obtain ⟨lv', L', F⟩ := (HSE.out V).1 hV
  obtain ⟨k0, -⟩ := F.slot (i := 2) (by simp) rfl (k := 0) (by simp)
  obtain ⟨k1, -⟩ := F.slot (i := 0) (by simp) rfl (k := 1) (by simp)
  obtain ⟨k2, -⟩ := F.slot (i := 0) (by simp) rfl (k := 2) (by simp)
  simp only [List.getElem_cons_succ, List.getElem_cons_zero] at k0 k1 k2
  exact ⟨k0, k1, k2⟩
 have HS0 : Hid (S w1.drew) := (HSE.out _).2 ⟨_, _, FD.out⟩
 refine wp_unt (S := S) 11 (by kernel_rfl) ?_
 clear F1
 generalize w1.drew = wd at *
 refine UntH.take (i := 0) (some 4) rfl rfl (by kernel_rfl) (by kernel_rfl) (by kernel_rfl) (by kernel_rfl) (fun _ _ _ _ h => h) (by rfl) HS0.out ?_
 apply Exists.intro
 refine ⟨fun w' hw' => ?_, ?_⟩
 · obtain ⟨q0, q1, q2⟩ := HRD.out w' hw'
   go_simp
   first | done | rfl
 try simp only [Act.put, List.setIfInBounds_toArray, List.set_cons_zero, List.set_cons_succ]
 refine UntH.take (i := 1) (some 5) rfl rfl (by kernel_rfl) (by kernel_rfl) (by kernel_rfl) (by kernel_rfl) (fun _ _ _ _ h => h) (by rfl) HS0.out ?_
 apply Exists.intro
 refine ⟨fun w' hw' => ?_, ?_⟩
 · obtain ⟨q0, q1, q2⟩ := HRD.out w' hw'
   go_simp
   first | done | rfl
 try simp only [Act.put, List.setIfInBounds_toArray, List.set_cons_zero, List.set_cons_succ]
 refine UntH.take (i := 2) (some 6) rfl rfl (by kernel_rfl) (by kernel_rfl) (by kernel_rfl) (by kernel_rfl) (fun _ _ _ _ h => h) (by rfl) HS0.out ?_
 apply Exists.intro
 refine ⟨fun w' hw' => ?_, ?_⟩
 · obtain ⟨q0, q1, q2⟩ := HRD.out w' hw'
   go_simp
   first | done | rfl
 try simp only [Act.put, List.setIfInBounds_toArray, List.set_cons_zero, List.set_cons_succ]
 refine UntH.take (i := 3) (some 7) rfl rfl (by kernel_rfl) (by kernel_rfl) (by kernel_rfl) (by kernel_rfl) (fun _ _ _ _ h => h) (by rfl) HS0.out ?_
 apply Exists.intro
 refine ⟨fun w' hw' => ?_, ?_⟩
 · obtain ⟨q0, q1, q2⟩ := HRD.out w' hw'
   go_simp
   first | done | rfl
 try simp only [Act.put, List.setIfInBounds_toArray, List.set_cons_zero, List.set_cons_succ]
 refine UntH.take (i := 4) (some 8) rfl rfl (by kernel_rfl) (by kernel_rfl) (by kernel_rfl) (by kernel_rfl) (fun _ _ _ _ h => h) (by rfl) HS0.out ?_
 apply Exists.intro
 refine ⟨fun w' hw' => ?_, ?_⟩
 · obtain ⟨q0, q1, q2⟩ := HRD.out w' hw'
   go_simp
   first | done | rfl
 try simp only [Act.put, List.setIfInBounds_toArray, List.set_cons_zero, List.set_cons_succ]
 refine UntH.take (i := 5) (some 9) rfl rfl (by kernel_rfl) (by kernel_rfl) (by kernel_rfl) (by kernel_rfl) (fun _ _ _ _ h => h) (by rfl) HS0.out ?_
 apply Exists.intro
 refine ⟨fun w' hw' => ?_, ?_⟩
 · obtain ⟨q0, q1, q2⟩ := HRD.out w' hw'
   go_simp
   first | done | rfl
 try simp only [Act.put, List.setIfInBounds_toArray, List.set_cons_zero, List.set_cons_succ]
 refine UntH.take (i := 6) (some 10) rfl rfl (by kernel_rfl) (by kernel_rfl) (by kernel_rfl) (by kernel_rfl) (fun _ _ _ _ h => h) (by rfl) HS0.out ?_
 apply Exists.intro
 refine ⟨fun w' hw' => ?_, ?_⟩
 · obtain ⟨q0, q1, q2⟩ := HRD.out w' hw'
   go_simp
   first | done | rfl
 try simp only [Act.put, List.setIfInBounds_toArray, List.set_cons_zero, List.set_cons_succ]
 have y1 : Below wd.heap.size wd (wd.alloc (.cells #[(.slice xa xn xc)] 22)) := al (Below.refl _ _) _
 have HS1 : Hid (S (wd.alloc (.cells #[(.slice xa xn xc)] 22))) := (HSE.out _).2 ⟨_, _, FD.out.below y1⟩
 have HOW : Hid ((wd.alloc (.cells #[(.slice xa xn xc)] 22)).ownsRow w0.heap.size 22 1 lv L.length L) := own_below (FD.out.own (i := 1) (by simp) rfl) y1
 have HNW : Hid (∀ (j : Nat) (z : Value), [((.slice xa xn xc) : Value)][j]? = some z → (wd.alloc (.cells #[(.slice xa xn xc)] 22)).cell? ((⟨wd.heap.size, 0, none⟩ : Addr).add j) = some z) := fun j z hu => by
  have hB := heap_alloc_new wd (.cells #[(.slice xa xn xc)] 22)
  rw [addr_add', cell_of_row _ _ _ _ _ _ hB]
  simpa using hu
 have HSW : Hid (w0.heap.size ≤ (wd.alloc (.cells #[(.slice xa xn xc)] 22)).heap.size) := Nat.le_trans FD.out.bel.size y1.size
 have HRO : Hid (∀ (g1 cap1 : Nat) (w7 : World), w7.ownsRow w0.heap.size 22 1 (.slice (some ⟨g1, 0, none⟩) (L.length + 1) cap1) (L.length + 1) (L ++ [(.slice xa xn xc)]) → (wd.alloc (.cells #[(.slice xa xn xc)] 22)).grownBy w7 lv.ownBlock → (lv.ownBlock = some g1 ∨ g1 = (wd.alloc (.cells #[(.slice xa xn xc)] 22)).heap.size) → Fr w0 [(.slice (some ⟨bx, 0, none⟩) 3 3, 24, [.string ⟨bs.toArray⟩, .slice xa xn xc, .slice oa on oc]), ((.slice (some ⟨g1, 0, none⟩) (L.length + 1) cap1), 22, L ++ [(.slice xa xn xc)]), (.slice (some ⟨bk, 0, none⟩) 2 2, 37, [lv, .slice none 0 0])] w7) := fun g1 cap1 w7 h1 h2 h3 => FD.out.lies y1 (i := 1) (by simp) rfl h1 h2 h3
 refine UntH.step (i := 7) (by kernel_rfl) rfl (fun K hK => ?_)
 go_simp
 refine hK _ _ HS1.out ?_
 clear hK K
 refine UntH.step (i := 8) (by kernel_rfl) rfl (fun K hK => ?_)
 refine step_append_lies _ (by rfl) (.tmp 8) (.tmp 11) 34 (by rfl) w0.heap.size 22 i22 (.slice none 0 0) 1 24 Tryz.underlying34 hi22 hz220 hz221 hz222 rfl (by decide) _ L.length L (by rfl) HOW.out ⟨wd.heap.size, 0, none⟩ 1 1 [(.slice xa xn xc)] (by rfl) (by rfl) HNW.out (by simp [Value.oneCell']) (by decide) (by unfold maxLen; omega) (by omega) HSW.out _ rfl ?_
 intro g1 cap1 wb1 h1 h2 h3 h4
 have F7 := hide (HRO.out g1 cap1 wb1 h1 h2 h3)
 have HS6 : Hid (S wb1) := (HSE.out _).2 ⟨_, _, F7.out⟩
 refine hK _ _ HS6.out ?_
 clear hK K h1 h2 h3 h4
 refine UntH.take (i := 9) (some 13) rfl rfl (by kernel_rfl) (by kernel_rfl) (by kernel_rfl) (by kernel_rfl) (fun _ _ _ _ h => h) (by rfl) HS6.out ?_
 apply Exists.intro
 refine ⟨fun w' hw' => ?_, ?_⟩
 · obtain ⟨q0, q1, q2⟩ := HRD.out w' hw'
   go_simp
   first | done | rfl
 try simp only [Act.put, List.setIfInBounds_toArray]
 refine UntH.take (i := 10) (some 14) rfl rfl (by kernel_rfl) (by kernel_rfl) (by kernel_rfl) (by kernel_rfl) (fun _ _ _ _ h => h) (by rfl) HS6.out ?_
 apply Exists.intro
 refine ⟨fun w' hw' => ?_, ?_⟩
 · obtain ⟨q0, q1, q2⟩ := HRD.out w' hw'
   go_simp
   first | done | rfl
 try simp only [Act.put]
 obtain ⟨z0, z1⟩ := F7.out.slot (i := 2) (by simp) rfl (k := 0) (by simp)
 simp only [List.getElem_cons_zero] at z0
 have F8 : Hid (Fr w0 [(.slice (some ⟨bx, 0, none⟩) 3 3, 24, [.string ⟨bs.toArray⟩, .slice xa xn xc, .slice oa on oc]), ((.slice (some ⟨g1, 0, none⟩) (L.length + 1) cap1), 22, L ++ [(.slice xa xn xc)]), (.slice (some ⟨bk, 0, none⟩) 2 2, 37, [(.slice (some ⟨g1, 0, none⟩) (L.length + 1) cap1), .slice none 0 0])] (wb1.setCell ⟨bk, 0, none⟩ (.slice (some ⟨g1, 0, none⟩) (L.length + 1) cap1))) := F7.out.store (i := 2) (by simp) rfl 0 _
 refine UntH.last (by kernel_rfl) rfl (by kernel_rfl) (by kernel_rfl) (fun K hK => ?_)
 go_simp
 refine hK _ _ ?_
 clear hK K z0 z1 F7 HOW HNW HSW HRO HS1 HS0 HS6 HRD HSE FD y1
 obtain ⟨wc1, hwc⟩ : ∃ wc1, wc1 = wb1.setCell ⟨bk, 0, none⟩ (.slice (some ⟨g1, 0, none⟩) (L.length + 1) cap1) := ⟨_, rfl⟩
 rw [← hwc] at F8 ⊢
 clear hwc
 obtain ⟨lv1, hlv1⟩ : ∃ lv1 : Value, lv1 = .slice (some ⟨g1, 0, none⟩) (L.length + 1) cap1 := ⟨_, rfl⟩
 obtain ⟨L1, hL1⟩ : ∃ L1 : List Value, L1 = L ++ [.slice xa xn xc] := ⟨_, rfl⟩
 have hl1 : L1.length ≤ 1001 := by rw [hL1]; simp; omega
 have F2 := F8
 rw [← hlv1, ← hL1] at F2
 have HL1 := hide hL1
 clear F8 hlv1 hL1
 go_upto_region 2 with fail
 have FD : Hid (Fr w0 [(.slice (some ⟨bx, 0, none⟩) 3 3, 24, [.string ⟨bs.toArray⟩, .slice xa xn xc, .slice oa on oc]), (lv1, 22, L1), (.slice (some ⟨bk, 0, none⟩) 2 2, 37, [lv1, .slice none 0 0])] wc1.drew) := F2.out.below (Below.refl _ _).drew
 obtain ⟨S, HSE⟩ : ∃ S : World → Prop, Hid (∀ V, S V ↔ ∃ lv' L', Fr w0 [(.slice (some ⟨bx, 0, none⟩) 3 3, 24, [.string ⟨bs.toArray⟩, .slice xa xn xc, .slice oa on oc]), (lv', 22, L'), (.slice (some ⟨bk, 0, none⟩) 2 2, 37, [lv1, .slice none 0 0])] V) := ⟨_, fun _ => Iff.rfl⟩
 have HRD : Hid (∀ V, S V → V.cell? ⟨bk, 0, none⟩ = some lv1 ∧ V.cell? ⟨bx, 1, none⟩ = some (.slice xa xn xc) ∧ V.cell? ⟨bx, 2, none⟩ = some (.slice oa on oc)) := fun V hV => by
  obtain ⟨lv', L', F⟩ := (HSE.out V).1 hV
  obtain ⟨k0, -⟩ := F.slot (i := 2) (by simp) rfl (k := 0) (by simp)
  obtain ⟨k1, -⟩ := F.slot (i := 0) (by simp) rfl (k := 1) (by simp)
  obtain ⟨k2, -⟩ := F.slot (i := 0) (by simp) rfl (k := 2) (by simp)
  simp only [List.getElem_cons_succ, List.getElem_cons_zero] at k0 k1 k2
  exact ⟨k0, k1, k2⟩
 have HS0 : Hid (S wc1.drew) := (HSE.out _).2 ⟨_, _, FD.out⟩
 refine wp_unt (S := S) 11 (by kernel_rfl) ?_
 clear F2
 generalize wc1.drew = wd at *
 refine UntH.take (i := 0) (some 15) rfl rfl (by kernel_rfl) (by kernel_rfl) (by kernel_rfl) (by kernel_rfl) (fun _ _ _ _ h => h) (by rfl) HS0.out ?_
 apply Exists.intro
 refine ⟨fun w' hw' => ?_, ?_⟩
 · obtain ⟨q0, q1, q2⟩ := HRD.out w' hw'
   go_simp
   first | done | rfl
 try simp only [Act.put, List.setIfInBounds_toArray, List.set_cons_zero, List.set_cons_succ]
 refine UntH.take (i := 1) (some 16) rfl rfl (by kernel_rfl) (by kernel_rfl) (by kernel_rfl) (by kernel_rfl) (fun _ _ _ _ h => h) (by rfl) HS0.out ?_
 apply Exists.intro
 refine ⟨fun w' hw' => ?_, ?_⟩
 · obtain ⟨q0, q1, q2⟩ := HRD.out w' hw'
   go_simp
   first | done | rfl
 try simp only [Act.put, List.setIfInBounds_toArray, List.set_cons_zero, List.set_cons_succ]
 refine UntH.take (i := 2) (some 17) rfl rfl (by kernel_rfl) (by kernel_rfl) (by kernel_rfl) (by kernel_rfl) (fun _ _ _ _ h => h) (by rfl) HS0.out ?_
 apply Exists.intro
 refine ⟨fun w' hw' => ?_, ?_⟩
 · obtain ⟨q0, q1, q2⟩ := HRD.out w' hw'
   go_simp
   first | done | rfl
 try simp only [Act.put, List.setIfInBounds_toArray, List.set_cons_zero, List.set_cons_succ]
 refine UntH.take (i := 3) (some 18) rfl rfl (by kernel_rfl) (by kernel_rfl) (by kernel_rfl) (by kernel_rfl) (fun _ _ _ _ h => h) (by rfl) HS0.out ?_
 apply Exists.intro
 refine ⟨fun w' hw' => ?_, ?_⟩
 · obtain ⟨q0, q1, q2⟩ := HRD.out w' hw'
   go_simp
   first | done | rfl
 try simp only [Act.put, List.setIfInBounds_toArray, List.set_cons_zero, List.set_cons_succ]
 refine UntH.take (i := 4) (some 19) rfl rfl (by kernel_rfl) (by kernel_rfl) (by kernel_rfl) (by kernel_rfl) (fun _ _ _ _ h => h) (by rfl) HS0.out ?_
 apply Exists.intro
 refine ⟨fun w' hw' => ?_, ?_⟩
 · obtain ⟨q0, q1, q2⟩ := HRD.out w' hw'
   go_simp
   first | done | rfl
 try simp only [Act.put, List.setIfInBounds_toArray, List.set_cons_zero, List.set_cons_succ]
 refine UntH.take (i := 5) (some 20) rfl rfl (by kernel_rfl) (by kernel_rfl) (by kernel_rfl) (by kernel_rfl) (fun _ _ _ _ h => h) (by rfl) HS0.out ?_
 apply Exists.intro
 refine ⟨fun w' hw' => ?_, ?_⟩
 · obtain ⟨q0, q1, q2⟩ := HRD.out w' hw'
   go_simp
   first | done | rfl
 try simp only [Act.put, List.setIfInBounds_toArray, List.set_cons_zero, List.set_cons_succ]
 refine UntH.take (i := 6) (some 21) rfl rfl (by kernel_rfl) (by kernel_rfl) (by kernel_rfl) (by kernel_rfl) (fun _ _ _ _ h => h) (by rfl) HS0.out ?_
 apply Exists.intro
 refine ⟨fun w' hw' => ?_, ?_⟩
 · obtain ⟨q0, q1, q2⟩ := HRD.out w' hw'
   go_simp
   first | done | rfl
 try simp only [Act.put, List.setIfInBounds_toArray, List.set_cons_zero, List.set_cons_succ]
 have y1 : Below wd.heap.size wd (wd.alloc (.cells #[(.slice oa on oc)] 22)) := al (Below.refl _ _) _
 have HS1 : Hid (S (wd.alloc (.cells #[(.slice oa on oc)] 22))) := (HSE.out _).2 ⟨_, _, FD.out.below y1⟩
 have HOW : Hid ((wd.alloc (.cells #[(.slice oa on oc)] 22)).ownsRow w0.heap.size 22 1 lv1 L1.length L1) := own_below (FD.out.own (i := 1) (by simp) rfl) y1
 have HNW : Hid (∀ (j : Nat) (z : Value), [((.slice oa on oc) : Value)][j]? = some z → (wd.alloc (.cells #[(.slice oa on oc)] 22)).cell? ((⟨wd.heap.size, 0, none⟩ : Addr).add j) = some z) := fun j z hu => by
  have hB := heap_alloc_new wd (.cells #[(.slice oa on oc)] 22)
  rw [addr_add', cell_of_row _ _ _ _ _ _ hB]
  simpa using hu
 have HSW : Hid (w0.heap.size ≤ (wd.alloc (.cells #[(.slice oa on oc)] 22)).heap.size) := Nat.le_trans FD.out.bel.size y1.size
 have HRO : Hid (∀ (g2 cap2 : Nat) (w7 : World), w7.ownsRow w0.heap.size 22 1 (.slice (some ⟨g2, 0, none⟩) (L1.length + 1) cap2) (L1.length + 1) (L1 ++ [(.slice oa on oc)]) → (wd.alloc (.cells #[(.slice oa on oc)] 22)).grownBy w7 lv1.ownBlock → (lv1.ownBlock = some g2 ∨ g2 = (wd.alloc (.cells #[(.slice oa on oc)] 22)).heap.size) → Fr w0 [(.slice (some ⟨bx, 0, none⟩) 3 3, 24, [.string ⟨bs.toArray⟩, .slice xa xn xc, .slice oa on oc]), ((.slice (some ⟨g2, 0, none⟩) (L1.length + 1) cap2), 22, L1 ++ [(.slice oa on oc)]), (.slice (some ⟨bk, 0, none⟩) 2 2, 37, [lv1, .slice none 0 0])] w7) := fun g2 cap2 w7 h1 h2 h3 => FD.out.lies y1 (i := 1) (by simp) rfl h1 h2 h3
 refine UntH.step (i := 7) (by kernel_rfl) rfl (fun K hK => ?_)
 go_simp
 refine hK _ _ HS1.out ?_
 clear hK K
 refine UntH.step (i := 8) (by kernel_rfl) rfl (fun K hK => ?_)
 refine step_append_lies _ (by rfl) (.tmp 19) (.tmp 22) 34 (by rfl) w0.heap.size 22 i22 (.slice none 0 0) 1 24 Tryz.underlying34 hi22 hz220 hz221 hz222 rfl (by decide) _ L1.length L1 (by rfl) HOW.out ⟨wd.heap.size, 0, none⟩ 1 1 [(.slice oa on oc)] (by rfl) (by rfl) HNW.out (by simp [Value.oneCell']) (by decide) (by unfold maxLen; omega) (by omega) HSW.out _ rfl ?_
 intro g2 cap2 wb2 h1 h2 h3 h4
 have F7 := hide (HRO.out g2 cap2 wb2 h1 h2 h3)
 have HS6 : Hid (S wb2) := (HSE.out _).2 ⟨_, _, F7.out⟩
 refine hK _ _ HS6.out ?_
 clear hK K h1 h2 h3 h4
 refine UntH.take (i := 9) (some 24) rfl rfl (by kernel_rfl) (by kernel_rfl) (by kernel_rfl) (by kernel_rfl) (fun _ _ _ _ h => h) (by rfl) HS6.out ?_
 apply Exists.intro
 refine ⟨fun w' hw' => ?_, ?_⟩
 · obtain ⟨q0, q1, q2⟩ := HRD.out w' hw'
   go_simp
   first | done | rfl
 try simp only [Act.put, List.setIfInBounds_toArray]
 refine UntH.take (i := 10) (some 25) rfl rfl (by kernel_rfl) (by kernel_rfl) (by kernel_rfl) (by kernel_rfl) (fun _ _ _ _ h => h) (by rfl) HS6.out ?_
 apply Exists.intro
 refine ⟨fun w' hw' => ?_, ?_⟩
 · obtain ⟨q0, q1, q2⟩ := HRD.out w' hw'
   go_simp
   first | done | rfl
 try simp only [Act.put]
 obtain ⟨z0, z1⟩ := F7.out.slot (i := 2) (by simp) rfl (k := 0) (by simp)
 simp only [List.getElem_cons_zero] at z0
 have F8 : Hid (Fr w0 [(.slice (some ⟨bx, 0, none⟩) 3 3, 24, [.string ⟨bs.toArray⟩, .slice xa xn xc, .slice oa on oc]), ((.slice (some ⟨g2, 0, none⟩) (L1.length + 1) cap2), 22, L1 ++ [(.slice oa on oc)]), (.slice (some ⟨bk, 0, none⟩) 2 2, 37, [(.slice (some ⟨g2, 0, none⟩) (L1.length + 1) cap2), .slice none 0 0])] (wb2.setCell ⟨bk, 0, none⟩ (.slice (some ⟨g2, 0, none⟩) (L1.length + 1) cap2))) := F7.out.store (i := 2) (by simp) rfl 0 _
 refine UntH.last (by kernel_rfl) rfl (by kernel_rfl) (by kernel_rfl) (fun K hK => ?_)
 go_simp
 refine hK _ _ ?_
 clear hK K z0 z1 F7 HOW HNW HSW HRO HS1 HS0 HS6 HRD HSE FD y1
 obtain ⟨wc2, hwc⟩ : ∃ wc2, wc2 = wb2.setCell ⟨bk, 0, none⟩ (.slice (some ⟨g2, 0, none⟩) (L1.length + 1) cap2) := ⟨_, rfl⟩
 rw [← hwc] at F8 ⊢
 clear hwc
 have FE : Hid (∃ lv', Fr w0 [(lv', 22, L ++ [.slice xa xn xc, .slice oa on oc]), (.slice (some ⟨bk, 0, none⟩) 2 2, 37, [lv', .slice none 0 0])] wc2) := ⟨_, by
  have := F8.out.tail
  rw [HL1.out, List.append_assoc] at this
  exact this⟩
 clear F8
 go_wp2
 refine bodyPost_end (v := .tuple #[]) (results_none rfl _ _ _) rfl ?_
 exact ⟨rfl, FE.out⟩
theorem parseA (w : World) : Calls Tryz.prog 22 #[.string ⟨#[97]⟩] w fun e w' => (∃ ao cap D, e = .returned (.tuple #[.slice ao D.length cap, .int .i64 0, .int .i64 0]) ∧ D.map PD.p = [pA] ∧ PcAt w' ao D) ∧ Below w.heap.size w w' := by
 refine (parse_any [97] w (by simp)).mono ?_
 rintro e w' ⟨hP, x⟩
 rw [parA] at hP
 obtain ⟨v, D, rfl, ho, hD⟩ := hP
 obtain ⟨ao, cap, rfl, _, hat⟩ := ho.at
 exact ⟨⟨ao, cap, D, rfl, hD, hat⟩, x⟩
theorem known_any (w : World) : Calls Tryz.prog 10 #[] w fun e w' => e = .returned (.bool true) ∧ Below w.heap.size w w' := by
 have HP := hide (parseA w)
 have HI : Hid ((Tryz.prog.info? 24).map (·.size) = some 3) := by unfold Hid; kernel_rfl
 go_enter Tryz.func10, Tryz.ntmps10
 go_upto_region 2 with (go_at_call 22; refine HP.out.mono ?_; rintro e w1 ⟨⟨ao, cap, D, rfl, hD, hat⟩, x1⟩; have HD := hide hD; have HAT := hide hat; have X1 := hide x1; clear hD hat x1)
 have HOF : Hid (Calls Tryz.prog 20 #[.slice ao D.length cap] w1 fun e w' => (∃ bs xa oa xc oc NX OU, e = .returned (.tuple #[.agg #[.string ⟨bs.toArray⟩, .slice xa NX.length xc, .slice oa OU.length oc], .int .i64 0]) ∧ OfR w' w1.heap.size [pA] bs xa oa xc oc NX OU) ∧ Below w1.heap.size w1 w') := by
  refine (of_any ao cap D w1 (fun d hd => ?_) HAT.out).mono ?_
  · have : d.p ∈ D.map PD.p := List.mem_map_of_mem hd
    rw [HD.out] at this
    rw [List.mem_singleton.1 this]
    simp [pA]
  · rintro e w' ⟨h, x⟩
    rw [HD.out] at h
    refine ⟨?_, x⟩
    rcases h.yes rtA with ⟨hm, _⟩ | h
    · exact (few_not_many fewA hm).elim
    · exact h
 go_upto_region 3 with (go_at_call 20; refine HOF.out.mono ?_; rintro e w2 ⟨⟨bs, xa, oa, xc, oc, NX, OU, rfl, hof⟩, x2⟩; have HF := hide hof; have X2 := hide (bt X1.out x2 (Nat.le_refl _)); clear hof x2)
 obtain ⟨hO, hX⟩ := sizeA HF.out.at'.may HF.out.at'.rt HF.out.lab
 have X3 : Below w2.heap.size w2 (w2.alloc (.cells #[.string ⟨bs.toArray⟩, .slice xa NX.length xc, .slice oa OU.length oc] 24)) := al (Below.refl _ _) _
 have B3 := heap_alloc_new w2 (.cells #[.string ⟨bs.toArray⟩, .slice xa NX.length xc, .slice oa OU.length oc] 24)
 obtain ⟨w3, hw3⟩ : ∃ w3, w3 = w2.alloc (.cells #[.string ⟨bs.toArray⟩, .slice xa NX.length xc, .slice oa OU.length oc] 24) := ⟨_, rfl⟩
 obtain ⟨pb, hpb⟩ : ∃ pb, pb = w2.heap.size := ⟨_, rfl⟩
 rw [← hw3] at X3 B3 ⊢
 rw [← hpb] at B3 ⊢
 have HX3 := hide (bt X2.out X3 (Nat.le_refl _))
 have HC : Hid (∀ V, Below w3.heap.size w3 V → V.cell? ⟨pb, 0, none⟩ = some (.string ⟨bs.toArray⟩) ∧ V.cell? ⟨pb, 1, none⟩ = some (.slice xa 6 xc) ∧ V.cell? ⟨pb, 2, none⟩ = some (.slice oa 3 oc)) := fun V x => by
  have Bv := (x.block _ (lt_of_block B3)).trans B3
  rw [hX, hO] at Bv
  exact ⟨by rw [cell_of_row _ _ _ _ _ _ Bv]; rfl, by rw [cell_of_row _ _ _ _ _ _ Bv]; rfl, by rw [cell_of_row _ _ _ _ _ _ Bv]; rfl⟩
 have l1 : (dfA bs NX OU).lab 0 (ntL [97]) = 1 := by rw [HF.out.lab]; exact (by kernel_rfl : (if mtF [pA] [97] ([pA] : List Pc).length then (1 : Int) else 0) = 1)
 have l2 : (dfA bs NX OU).lab 0 (ntL [97, 98]) = 0 := by rw [HF.out.lab]; exact (by kernel_rfl : (if mtF [pA] [97, 98] ([pA] : List Pc).length then (1 : Int) else 0) = 0)
 have HR1 : Hid (∀ V, Below w3.heap.size w3 V → Calls Tryz.prog 27 #[.agg #[.string ⟨bs.toArray⟩, .slice xa 6 xc, .slice oa 3 oc], .string ⟨#[97]⟩] V fun e w' => e = .returned (.tuple #[.int .i64 1, .int .i64 0]) ∧ Below V.heap.size V w') := fun V x => by
  have := (HF.out.at'.below (bt X3 x (Nat.le_refl _))).run xc oc [97] (by simp)
  rw [l1, hO, hX] at this
  exact this
 have HR2 : Hid (∀ V, Below w3.heap.size w3 V → Calls Tryz.prog 27 #[.agg #[.string ⟨bs.toArray⟩, .slice xa 6 xc, .slice oa 3 oc], .string ⟨#[97, 98]⟩] V fun e w' => e = .returned (.tuple #[.int .i64 0, .int .i64 0]) ∧ Below V.heap.size V w') := fun V x => by
  have := (HF.out.at'.below (bt X3 x (Nat.le_refl _))).run xc oc [97, 98] (by simp)
  rw [l2, hO, hX] at this
  exact this
 have HSH : Hid (∀ V, Below w3.heap.size w3 V → Calls Tryz.prog 29 #[.agg #[.string ⟨bs.toArray⟩, .slice xa 6 xc, .slice oa 3 oc], .int .i64 1] V fun e w' => e = .returned (.tuple #[.string ⟨#[97]⟩, .bool true, .int .i64 0]) ∧ Below V.heap.size V w') := fun V x => by
  have := (HF.out.at'.below (bt X3 x (Nat.le_refl _))).short xc oc 1
  rw [hO, hX] at this
  refine this.mono ?_
  rintro e w' ⟨⟨s, is, rfl, hS⟩, x'⟩
  refine ⟨?_, x'⟩
  rcases hS with ⟨rfl, st, t, _, k2, _, k4, rfl⟩ | ⟨_, _, k⟩
  · rw [leastA HF.out.lab k2 k4]
  · refine absurd l1 (k _ (HF.out.at'.rt.toOk.run HF.out.at'.rt.n0 (ntL_txt _)))
 have HRR : Hid (∀ V, Below w3.heap.size w3 V → Calls Tryz.prog 16 #[.agg #[.string ⟨bs.toArray⟩, .slice xa 6 xc, .slice oa 3 oc]] V fun e w' => e = .returned (.bool true) ∧ Below V.heap.size V w') := fun V x => by
  have := (HF.out.at'.below (bt X3 x (Nat.le_refl _))).right xc oc
  rw [hO, hX] at this
  exact this
 rw [hX, hO]
 obtain ⟨c0, c1, c2⟩ := HC.out w3 (Below.refl _ _)
 clear hw3 hpb X3 B3 HF hO hX l1 l2 HOF HP HAT HD
 go_upto_region 4 with (go_at_call 27; refine (HR1.out _ (Below.refl _ _)).mono ?_; rintro e w4 ⟨rfl, x4⟩; have X4 := hide x4; clear x4)
 obtain ⟨c0, c1, c2⟩ := HC.out w4 X4.out
 clear HR1
 go_upto_region 5 with (go_at_call 27; refine (HR2.out _ X4.out).mono ?_; rintro e w5 ⟨rfl, x5⟩; have X5 := hide (bt X4.out x5 (Nat.le_refl _)); clear x5)
 obtain ⟨c0, c1, c2⟩ := HC.out w5 X5.out
 go_upto_region 6 with (go_at_call 29; refine (HSH.out _ X5.out).mono ?_; rintro e w6 ⟨rfl, x6⟩; have X6 := hide (bt X5.out x6 (Nat.le_refl _)); clear x6)
 obtain ⟨c0, c1, c2⟩ := HC.out w6 X6.out
 go_wp2_with (go_at_call 16; refine (HRR.out _ X6.out).mono ?_; rintro e w7 ⟨rfl, x7⟩; have X7 := hide (bt X6.out x7 (Nat.le_refl _)); clear x7)
 go_ret
 exact ⟨rfl, bt HX3.out X7.out (Nat.le_refl _)⟩
end Go.Proofs.YtdgoilkgplnhfaaGreat
namespace Go.Proofs.YtdgoilkgplnhfaaGreat
theorem pcL_star {r t : By} {p : Pc} (h : pcL r = .ok (p, t)) : (manyK p.kind = true → [42].isPrefixOf r = true) ∧ (p.kind = 4 → [42].isPrefixOf t = false) := by
 unfold pcL at h
 split at h
 · rename_i hb
   injection h with h; injection h with h1 h2; subst h1 h2
   refine ⟨fun _ => ?_, fun h => absurd (show (5 : Int) = 4 from h) (by decide)⟩
   obtain ⟨t, rfl⟩ := List.isPrefixOf_iff_prefix.1 hb
   rfl
 · rename_i hb0
   split at h
   · rename_i hb
     injection h with h; injection h with h1 h2; subst h1 h2
     refine ⟨fun _ => hb, fun _ => ?_⟩
     obtain ⟨t, rfl⟩ := List.isPrefixOf_iff_prefix.1 hb
     cases ht : [42].isPrefixOf (([42] ++ t).drop 1) with
     | false => rfl
     | true =>
       exfalso
       apply hb0
       obtain ⟨u, hu⟩ := List.isPrefixOf_iff_prefix.1 ht
       simp at hu
       subst hu
       rfl
   · split at h
     · injection h with h; injection h with h1 h2; subst h1 h2
       exact ⟨fun h => absurd (show manyK 2 = true from h) (by decide), fun h => absurd (show (2 : Int) = 4 from h) (by decide)⟩
     · split at h
       · obtain ⟨_, _, _, hk⟩ := stL_ok h
         exact ⟨fun h => by rw [hk] at h; exact absurd h (by decide), fun h => by rw [hk] at h; exact absurd h (by decide)⟩
       · split at h
         · cases h
         · injection h with h; injection h with h1 h2; subst h1 h2
           exact ⟨fun h => absurd (show manyK 1 = true from h) (by decide), fun h => absurd (show (1 : Int) = 4 from h) (by decide)⟩
theorem getD_snoc_lt {A : List Pc} {p : Pc} {i : Nat} (h : i < A.length) : (A ++ [p]).getD i zPc = A.getD i zPc := by
 rw [List.getD_eq_getElem?_getD, List.getElem?_append_left h, List.getD_eq_getElem?_getD]
theorem getD_snoc_eq {A : List Pc} {p : Pc} : (A ++ [p]).getD A.length zPc = p := by
 rw [List.getD_eq_getElem?_getD, List.getElem?_append_right (Nat.le_refl _), Nat.sub_self]
 rfl
theorem Rt.snoc {A : List Pc} {p : Pc} (h : Rt A) (hl : A.length < 64) (hp : Rp p) (ha : ∀ i, i + 1 = A.length → (A.getD i zPc).kind = 4 → manyK p.kind = false) : Rt (A ++ [p]) := by
 refine ⟨by rw [List.length_append, List.length_singleton]; omega, fun q hq => ?_, fun i hi => ?_⟩
 · rcases List.mem_append.1 hq with hq | hq
   · exact h.2.1 q hq
   · rw [List.mem_singleton.1 hq]; exact hp
 · rw [List.length_append, List.length_singleton] at hi
   by_cases h1 : i + 1 < A.length
   · rw [getD_snoc_lt (by omega), getD_snoc_lt h1]; exact h.2.2 i h1
   · have h2 : i + 1 = A.length := by omega
     rw [getD_snoc_lt (by omega), h2, getD_snoc_eq]
     rintro ⟨h3, h4⟩
     rw [ha i h2 h3] at h4
     cases h4
theorem psL_right : ∀ {n : Nat} {r : By} {A L : List Pc}, psL n r A = .ok L → Rt A → (∀ i, i + 1 = A.length → (A.getD i zPc).kind = 4 → [42].isPrefixOf r = false) → Rt L
 | 0, r, A, L, h, _, _ => by cases h
 | n + 1, r, A, L, h, hA, ha => by
   unfold psL at h
   split at h
   · injection h with h; subst h; exact hA
   · split at h
     · cases h
     · rename_i h64
       split at h
       · cases h
       · rename_i p t hp
         obtain ⟨a1, a2, a3⟩ := pcL_ok hp
         obtain ⟨b1, b2⟩ := pcL_star hp
         refine psL_right h (hA.snoc (by have := hA.1; omega) a3 (fun i h1 h2 => ?_)) (fun i h1 h2 => ?_)
         · cases hm : manyK p.kind with
           | false => rfl
           | true => have := ha i h1 h2; rw [b1 hm] at this; cases this
         · have h3 : i = A.length := by rw [List.length_append, List.length_singleton] at h1; omega
           subst h3
           rw [getD_snoc_eq] at h2
           exact b2 h2
theorem Rt.nil : Rt [] := ⟨by decide, fun p hp => (by cases hp), fun i hi => absurd hi (by simp)⟩
theorem parL_right {s : By} {L : List Pc} (h : parL s = .ok L) : Rt L := psL_right h Rt.nil (fun i hi => absurd hi (by simp))
end Go.Proofs.YtdgoilkgplnhfaaGreat
namespace Go.Proofs.YtdgoilkgplnhfaaGreat
open Go.RowKit Go.Lib
theorem set_short : ∀ (L : List Spn) (x : Int), IsSet L → (∀ s ∈ L, x ≤ s.1 ∧ s.2 ≤ 126) → x ≤ 127 → (L.length : Int) + x ≤ 127
 | [], x, _, _, hx => by simpa using hx
 | s :: L, x, h, hs, hx => by
   have h1 := hs s (by simp)
   have h2 := h.head
   unfold Bnd at h2
   cases L with
   | nil => simp; omega
   | cons t L =>
     have h3 := (List.pairwise_cons.1 h.2).1
     have ht := hs t (by simp)
     have ht2 := h.1 t (by simp)
     have ht3 := h3 t (by simp)
     unfold Bnd at ht2
     have ih := set_short (t :: L) (x + 2) h.tail (fun u hu => ⟨by have := h3 u hu; omega, (hs u (List.mem_cons_of_mem _ hu)).2⟩) (by omega)
     simp only [List.length_cons] at ih ⊢
     omega
theorem right_set_len {L : List Pc} (h : Rt L) : ∀ p ∈ L, p.set.length ≤ 4294967296 := by
 intro p hp
 rcases h.2.1 p hp with h | h | h
 · rw [h.2.2.2.2]; decide
 · rw [h.2.2.2]; decide
 · have h1 := set_short p.set 32 h.2.2.1 h.2.2.2.2 (by decide)
   omega
theorem parseP_any (s : By) (w : World) (hl : s.length ≤ 4294967296) : Calls Tryz.prog 22 #[.string ⟨s.toArray⟩] w fun e w' => ((∃ ao cap D, e = .returned (.tuple #[.slice ao D.length cap, .int .i64 0, .int .i64 0]) ∧ Rt (D.map PD.p) ∧ PcAt w' ao D ∧ parL s = .ok (D.map PD.p)) ∨ (∃ n : Nat, e = .returned (.tuple #[.slice none 0 0, .int .i64 50, .int .i64 (n : Int)]))) ∧ Below w.heap.size w w' := by
 refine (parse_any s w hl).mono ?_
 rintro e w' ⟨hP, x⟩
 refine ⟨?_, x⟩
 cases hp : parL s with
 | ok L =>
   rw [hp] at hP
   obtain ⟨v, D, rfl, ho, hD⟩ := hP
   obtain ⟨ao, cap, rfl, _, hat⟩ := ho.at
   exact .inl ⟨ao, cap, D, rfl, by rw [hD]; exact parL_right hp, hat, by rw [hD]⟩
 | error t =>
   rw [hp] at hP
   exact .inr ⟨_, hP.1⟩
end Go.Proofs.YtdgoilkgplnhfaaGreat
