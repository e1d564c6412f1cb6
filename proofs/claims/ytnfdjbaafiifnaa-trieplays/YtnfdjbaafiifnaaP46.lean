/-
  The steps of a script: Put, Find, Map, New, Make, and those that do nothing. Condition: numbers and rows elsewhere than the tries.
-/
import Derived.Test.YtnfdjbaafiifnaaP45
namespace Go.Proofs.Ytnfdjbaafiifnaa
open Go.RowKit Go.Lib

theorem sd_set0 {w : World} {xb : Nat} {a b : Value} (h : w.heap[xb]? = some (.cells #[a, b] 39 (0, 0))) (v : Value) : (w.setCell ⟨xb, 0, none⟩ v).heap[xb]? = some (.cells #[v, b] 39 (0, 0)) := by
  have := block_setCell h 0 v
  simpa using this
theorem sd_set1 {w : World} {xb : Nat} {a b : Value} (h : w.heap[xb]? = some (.cells #[a, b] 39 (0, 0))) (v : Value) : (w.setCell ⟨xb, 1, none⟩ v).heap[xb]? = some (.cells #[a, v] 39 (0, 0)) := by
  have := block_setCell h 1 v
  simpa using this

set_option maxRecDepth 100000 in
set_option maxHeartbeats 2000000 in
theorem stepPut {w : World} {base xb tb rb bb m : Nat} {T : Tr} (on N a k : Int) (la ra : Option Addr) (ll lc rl rc : Nat) (h : SdAt w xb tb rb T) (hb : Bk w base bb m) :
    Calls Try.prog 12 #[.pointer (some ⟨xb, 0, none⟩), .agg #[.int .i64 1, .int .i64 on, .int .i64 N, .int .i64 a, .int .i64 k, .slice la ll lc, .slice ra rl rc], .pointer (some ⟨bb, 0, none⟩)] w fun e w' => e = .returned (.bool true) ∧ StP w base xb tb rb bb m w' := by
  obtain ⟨W, hW⟩ : ∃ W, W = w.alloc (.cells #[.int .i64 1, .int .i64 on, .int .i64 N, .int .i64 a, .int .i64 k, .slice la ll lc, .slice ra rl rc] 46) := ⟨_, rfl⟩
  have XW := hide (show Below w.heap.size w W by rw [hW]; exact al (Below.refl _ _) _)
  have HP := hide (show W.heap[w.heap.size]? = some (.cells #[.int .i64 1, .int .i64 on, .int .i64 N, .int .i64 a, .int .i64 k, .slice la ll lc, .slice ra rl rc] 46 (0, 0)) by rw [hW]; exact heap_alloc_new w _)
  obtain ⟨P, hP⟩ : ∃ P, P = w.heap.size := ⟨_, rfl⟩
  rw [← hP] at HP
  have S1 := hide (h.below XW.out)
  have B1 := hide (hb.below XW.out)
  have p0 : W.cell? ⟨P, 0, none⟩ = some (.int .i64 1) := by rw [cell_of_row _ _ _ _ _ _ HP.out]; rfl
  obtain ⟨ev, T', n1, n2, n3, C1, C2⟩ := put_both (tb := tb) (rb := rb) a k N h.nf h.labs h.dep
  have HC1 := hide C1
  have HC2 := hide C2
  clear C1 C2 h hb
  have HQ : Hid (∀ V, Below W.heap.size W V → V.cell? ⟨xb, 0, none⟩ = some (.pointer (some ⟨tb, 0, none⟩)) ∧ V.cell? ⟨P, 3, none⟩ = some (.int .i64 a) ∧ V.cell? ⟨P, 4, none⟩ = some (.int .i64 k) ∧ V.cell? ⟨P, 2, none⟩ = some (.int .i64 N)) := fun V y => by
    have h1 := (S1.out.below y).blk
    have h2 := (y.block P (lt_of_block HP.out)).trans HP.out
    exact ⟨by rw [cell_of_row _ _ _ _ _ _ h1]; rfl, by rw [cell_of_row _ _ _ _ _ _ h2]; rfl, by rw [cell_of_row _ _ _ _ _ _ h2]; rfl, by rw [cell_of_row _ _ _ _ _ _ h2]; rfl⟩
  go_enter Try.func12, Try.ntmps12
  go_upto_region 1 with fail
  rw [← hW, ← hP]
  clear hW hP
  go_upto_region 3 with fail
  clear p0
  refine wp_unt (S := fun V => Below W.heap.size W V) 8 (by kernel_rfl) ?_
  have HS0 : Hid (Below W.heap.size W W.drew) := (Below.refl _ _).drew
  have S2 := hide (S1.out.below HS0.out)
  have HP2 := hide ((HS0.out.block P (lt_of_block HP.out)).trans HP.out)
  have HCA := hide (HC1.out W.drew S2.out.tr)
  generalize W.drew = wd at *
  refine UntH.take (i := 0) (some 26) rfl rfl (by kernel_rfl) (by kernel_rfl) (by kernel_rfl) (by kernel_rfl) (fun _ _ _ _ h => h) (by rfl) HS0.out ?_
  apply Exists.intro
  refine ⟨fun w' hw' => ?_, ?_⟩
  · obtain ⟨q1, q2, q3, q4⟩ := HQ.out w' hw'
    go_simp
    first | done | rfl
  try simp only [Act.put, List.setIfInBounds_toArray, List.set_cons_zero, List.set_cons_succ]
  refine UntH.take (i := 1) (some 27) rfl rfl (by kernel_rfl) (by kernel_rfl) (by kernel_rfl) (by kernel_rfl) (fun _ _ _ _ h => h) (by rfl) HS0.out ?_
  apply Exists.intro
  refine ⟨fun w' hw' => ?_, ?_⟩
  · obtain ⟨q1, q2, q3, q4⟩ := HQ.out w' hw'
    go_simp
    first | done | rfl
  try simp only [Act.put, List.setIfInBounds_toArray, List.set_cons_zero, List.set_cons_succ]
  refine UntH.take (i := 2) (some 28) rfl rfl (by kernel_rfl) (by kernel_rfl) (by kernel_rfl) (by kernel_rfl) (fun _ _ _ _ h => h) (by rfl) HS0.out ?_
  apply Exists.intro
  refine ⟨fun w' hw' => ?_, ?_⟩
  · obtain ⟨q1, q2, q3, q4⟩ := HQ.out w' hw'
    go_simp
    first | done | rfl
  try simp only [Act.put, List.setIfInBounds_toArray, List.set_cons_zero, List.set_cons_succ]
  refine UntH.take (i := 3) (some 29) rfl rfl (by kernel_rfl) (by kernel_rfl) (by kernel_rfl) (by kernel_rfl) (fun _ _ _ _ h => h) (by rfl) HS0.out ?_
  apply Exists.intro
  refine ⟨fun w' hw' => ?_, ?_⟩
  · obtain ⟨q1, q2, q3, q4⟩ := HQ.out w' hw'
    go_simp
    first | done | rfl
  try simp only [Act.put, List.setIfInBounds_toArray, List.set_cons_zero, List.set_cons_succ]
  refine UntH.take (i := 4) (some 30) rfl rfl (by kernel_rfl) (by kernel_rfl) (by kernel_rfl) (by kernel_rfl) (fun _ _ _ _ h => h) (by rfl) HS0.out ?_
  apply Exists.intro
  refine ⟨fun w' hw' => ?_, ?_⟩
  · obtain ⟨q1, q2, q3, q4⟩ := HQ.out w' hw'
    go_simp
    first | done | rfl
  try simp only [Act.put, List.setIfInBounds_toArray, List.set_cons_zero, List.set_cons_succ]
  refine UntH.take (i := 5) (some 31) rfl rfl (by kernel_rfl) (by kernel_rfl) (by kernel_rfl) (by kernel_rfl) (fun _ _ _ _ h => h) (by rfl) HS0.out ?_
  apply Exists.intro
  refine ⟨fun w' hw' => ?_, ?_⟩
  · obtain ⟨q1, q2, q3, q4⟩ := HQ.out w' hw'
    go_simp
    first | done | rfl
  try simp only [Act.put, List.setIfInBounds_toArray, List.set_cons_zero, List.set_cons_succ]
  refine UntH.take (i := 6) (some 32) rfl rfl (by kernel_rfl) (by kernel_rfl) (by kernel_rfl) (by kernel_rfl) (fun _ _ _ _ h => h) (by rfl) HS0.out ?_
  apply Exists.intro
  refine ⟨fun w' hw' => ?_, ?_⟩
  · obtain ⟨q1, q2, q3, q4⟩ := HQ.out w' hw'
    go_simp
    first | done | rfl
  try simp only [Act.put, List.setIfInBounds_toArray, List.set_cons_zero, List.set_cons_succ]
  refine UntH.take (i := 7) (some 33) rfl rfl (by kernel_rfl) (by kernel_rfl) (by kernel_rfl) (by kernel_rfl) (fun _ _ _ _ h => h) (by rfl) HS0.out ?_
  apply Exists.intro
  refine ⟨fun w' hw' => ?_, ?_⟩
  · obtain ⟨q1, q2, q3, q4⟩ := HQ.out w' hw'
    go_simp
    first | done | rfl
  try simp only [Act.put, List.setIfInBounds_toArray, List.set_cons_zero, List.set_cons_succ]
  refine UntH.stepf (i := 8) (by kernel_rfl) rfl (by kernel_rfl) (fun K' hK => ?_)
  go_simp
  refine HCA.out.mono ?_
  rintro e w3 ⟨rfl, ht3, hk3⟩
  have T3 := hide ht3
  have K3 := hide hk3
  refine hK _ _ ?_
  clear hK K' ht3 hk3 HCA HQ
  refine UntH.stepf (i := 9) (by kernel_rfl) rfl (by kernel_rfl) (fun K' hK => ?_)
  go_simp
  refine hK _ _ ?_
  clear hK K'
  refine UntH.end (by kernel_rfl) ?_
  obtain ⟨r2, hr2⟩ := S2.out.tr.blk4
  have B3 := hide ((K3.out.block xb (lt_of_block S2.out.blk) (fun e => by subst e; rw [S2.out.blk] at hr2; simp at hr2)).trans S2.out.blk)
  have HP3 := hide ((K3.out.block P (lt_of_block HP2.out) (fun e => by subst e; rw [HP2.out] at hr2; simp at hr2)).trans HP2.out)
  have D3 : Hid (DtAt w3 rb T.at) := S2.out.dt.kept K3.out (fun j hj => by subst hj; exact ⟨_, 73, _, hr2, by decide, by decide⟩)
  have KA : Hid (Kept (fun j => j = xb ∨ j = tb ∨ j = rb) W w3) := (Kept.of_below HS0.out).trans (K3.out.mono (fun j hj => .inr (.inl hj)))
  clear hr2 HS0 HP HP2 K3
  have HQ : Hid (∀ V, Below w3.heap.size w3 V → V.cell? ⟨xb, 1, none⟩ = some (.pointer (some ⟨rb, 0, none⟩)) ∧ V.cell? ⟨P, 3, none⟩ = some (.int .i64 a) ∧ V.cell? ⟨P, 4, none⟩ = some (.int .i64 k) ∧ V.cell? ⟨P, 2, none⟩ = some (.int .i64 N)) := fun V y => by
    have h1 := (y.block xb (lt_of_block B3.out)).trans B3.out
    have h2 := (y.block P (lt_of_block HP3.out)).trans HP3.out
    exact ⟨by rw [cell_of_row _ _ _ _ _ _ h1]; rfl, by rw [cell_of_row _ _ _ _ _ _ h2]; rfl, by rw [cell_of_row _ _ _ _ _ _ h2]; rfl, by rw [cell_of_row _ _ _ _ _ _ h2]; rfl⟩
  go_upto_region 4 with fail
  refine wp_unt (S := fun V => V.cell? ⟨xb, 1, none⟩ = some (.pointer (some ⟨rb, 0, none⟩)) ∧ V.cell? ⟨P, 3, none⟩ = some (.int .i64 a) ∧ V.cell? ⟨P, 4, none⟩ = some (.int .i64 k) ∧ V.cell? ⟨P, 2, none⟩ = some (.int .i64 N)) 10 (by kernel_rfl) ?_
  have HS0 : Hid (Below w3.heap.size w3 w3.drew) := (Below.refl _ _).drew
  have HP4 := hide ((HS0.out.block P (lt_of_block HP3.out)).trans HP3.out)
  have HS4 := hide (HQ.out _ HS0.out)
  have HCB := hide (HC2.out w3.drew (D3.out.below HS0.out))
  have T4 := hide (T3.out.below HS0.out)
  have B4 := hide ((HS0.out.block xb (lt_of_block B3.out)).trans B3.out)
  have D4 := hide (D3.out.below HS0.out)
  have KB : Hid (Kept (fun j => j = xb ∨ j = tb ∨ j = rb) W w3.drew) := KA.out.trans (Kept.of_below HS0.out)
  generalize w3.drew = wd at *
  refine UntH.take (i := 0) (some 35) rfl rfl (by kernel_rfl) (by kernel_rfl) (by kernel_rfl) (by kernel_rfl) (fun _ _ _ _ h => h) (by rfl) HS4.out ?_
  apply Exists.intro
  refine ⟨fun w' hw' => ?_, ?_⟩
  · obtain ⟨q1, q2, q3, q4⟩ := hw'
    go_simp
    first | done | rfl
  try simp only [Act.put, List.setIfInBounds_toArray, List.set_cons_zero, List.set_cons_succ]
  refine UntH.take (i := 1) (some 36) rfl rfl (by kernel_rfl) (by kernel_rfl) (by kernel_rfl) (by kernel_rfl) (fun _ _ _ _ h => h) (by rfl) HS4.out ?_
  apply Exists.intro
  refine ⟨fun w' hw' => ?_, ?_⟩
  · obtain ⟨q1, q2, q3, q4⟩ := hw'
    go_simp
    first | done | rfl
  try simp only [Act.put, List.setIfInBounds_toArray, List.set_cons_zero, List.set_cons_succ]
  refine UntH.take (i := 2) (some 37) rfl rfl (by kernel_rfl) (by kernel_rfl) (by kernel_rfl) (by kernel_rfl) (fun _ _ _ _ h => h) (by rfl) HS4.out ?_
  apply Exists.intro
  refine ⟨fun w' hw' => ?_, ?_⟩
  · obtain ⟨q1, q2, q3, q4⟩ := hw'
    go_simp
    first | done | rfl
  try simp only [Act.put, List.setIfInBounds_toArray, List.set_cons_zero, List.set_cons_succ]
  refine UntH.take (i := 3) (some 38) rfl rfl (by kernel_rfl) (by kernel_rfl) (by kernel_rfl) (by kernel_rfl) (fun _ _ _ _ h => h) (by rfl) HS4.out ?_
  apply Exists.intro
  refine ⟨fun w' hw' => ?_, ?_⟩
  · obtain ⟨q1, q2, q3, q4⟩ := hw'
    go_simp
    first | done | rfl
  try simp only [Act.put, List.setIfInBounds_toArray, List.set_cons_zero, List.set_cons_succ]
  refine UntH.take (i := 4) (some 39) rfl rfl (by kernel_rfl) (by kernel_rfl) (by kernel_rfl) (by kernel_rfl) (fun _ _ _ _ h => h) (by rfl) HS4.out ?_
  apply Exists.intro
  refine ⟨fun w' hw' => ?_, ?_⟩
  · obtain ⟨q1, q2, q3, q4⟩ := hw'
    go_simp
    first | done | rfl
  try simp only [Act.put, List.setIfInBounds_toArray, List.set_cons_zero, List.set_cons_succ]
  refine UntH.take (i := 5) (some 40) rfl rfl (by kernel_rfl) (by kernel_rfl) (by kernel_rfl) (by kernel_rfl) (fun _ _ _ _ h => h) (by rfl) HS4.out ?_
  apply Exists.intro
  refine ⟨fun w' hw' => ?_, ?_⟩
  · obtain ⟨q1, q2, q3, q4⟩ := hw'
    go_simp
    first | done | rfl
  try simp only [Act.put, List.setIfInBounds_toArray, List.set_cons_zero, List.set_cons_succ]
  refine UntH.take (i := 6) (some 41) rfl rfl (by kernel_rfl) (by kernel_rfl) (by kernel_rfl) (by kernel_rfl) (fun _ _ _ _ h => h) (by rfl) HS4.out ?_
  apply Exists.intro
  refine ⟨fun w' hw' => ?_, ?_⟩
  · obtain ⟨q1, q2, q3, q4⟩ := hw'
    go_simp
    first | done | rfl
  try simp only [Act.put, List.setIfInBounds_toArray, List.set_cons_zero, List.set_cons_succ]
  refine UntH.take (i := 7) (some 42) rfl rfl (by kernel_rfl) (by kernel_rfl) (by kernel_rfl) (by kernel_rfl) (fun _ _ _ _ h => h) (by rfl) HS4.out ?_
  apply Exists.intro
  refine ⟨fun w' hw' => ?_, ?_⟩
  · obtain ⟨q1, q2, q3, q4⟩ := hw'
    go_simp
    first | done | rfl
  try simp only [Act.put, List.setIfInBounds_toArray, List.set_cons_zero, List.set_cons_succ]
  refine UntH.take (i := 8) (some 43) rfl rfl (by kernel_rfl) (by kernel_rfl) (by kernel_rfl) (by kernel_rfl) (fun _ _ _ _ h => h) (by rfl) HS4.out ?_
  apply Exists.intro
  refine ⟨fun w' hw' => ?_, ?_⟩
  · obtain ⟨q1, q2, q3, q4⟩ := hw'
    go_simp
    first | done | rfl
  try simp only [Act.put, List.setIfInBounds_toArray, List.set_cons_zero, List.set_cons_succ]
  have hee : (ev == ev) = true := by simp
  refine UntH.step (i := 9) (by kernel_rfl) rfl (fun K' hK => ?_)
  go_simp
  refine HCB.out.mono ?_
  rintro e w5 ⟨rfl, hd5, hk5⟩
  have D5 := hide hd5
  have K5 := hide hk5
  have hvd := D4.out.blk
  have HS5 : Hid (w5.cell? ⟨xb, 1, none⟩ = some (.pointer (some ⟨rb, 0, none⟩)) ∧ w5.cell? ⟨P, 3, none⟩ = some (.int .i64 a) ∧ w5.cell? ⟨P, 4, none⟩ = some (.int .i64 k) ∧ w5.cell? ⟨P, 2, none⟩ = some (.int .i64 N)) := by
    obtain ⟨v4, hv4⟩ := hvd
    have h1 := (K5.out.block xb (lt_of_block B4.out) (fun e => by subst e; rw [B4.out] at hv4; simp at hv4)).trans B4.out
    have h2 := (K5.out.block P (lt_of_block HP4.out) (fun e => by subst e; rw [HP4.out] at hv4; simp at hv4)).trans HP4.out
    exact ⟨by rw [cell_of_row _ _ _ _ _ _ h1]; rfl, by rw [cell_of_row _ _ _ _ _ _ h2]; rfl, by rw [cell_of_row _ _ _ _ _ _ h2]; rfl, by rw [cell_of_row _ _ _ _ _ _ h2]; rfl⟩
  clear hvd
  refine hK _ _ HS5.out ?_
  clear hK K' hd5 hk5 HCB HQ
  refine UntH.stepf (i := 10) (by kernel_rfl) rfl (by kernel_rfl) (fun K' hK => ?_)
  go_simp
  refine hK _ _ ?_
  clear hK K'
  refine UntH.stepf (i := 11) (by kernel_rfl) rfl (by kernel_rfl) (fun K' hK => ?_)
  go_simp
  refine hK _ _ ?_
  clear hK K'
  refine UntH.end (by kernel_rfl) ?_
  go_wp2
  go_ret
  obtain ⟨v4, hv4⟩ := D4.out.blk
  refine ⟨by first | rfl | (simp; done), StP.start XW.out (StP.side S1.out B1.out (KB.out.trans (K5.out.mono (fun j hj => .inr (.inr hj)))) (T' := T') ⟨?_, ?_, D5.out, n1, n2, n3⟩ (.inl rfl) (.inl rfl))⟩
  · exact (K5.out.block xb (lt_of_block B4.out) (fun e => by subst e; rw [B4.out] at hv4; simp at hv4)).trans B4.out
  · exact T4.out.kept K5.out (fun j hj => by subst hj; exact ⟨_, 78, _, hv4, by decide, by decide⟩)
set_option maxRecDepth 100000 in
set_option maxHeartbeats 2000000 in
theorem stepFind {w : World} {base xb tb rb bb m : Nat} {T : Tr} (on N a k : Int) (la ra : Option Addr) (ll lc rl rc : Nat) (h : SdAt w xb tb rb T) (hb : Bk w base bb m) :
    Calls Try.prog 12 #[.pointer (some ⟨xb, 0, none⟩), .agg #[.int .i64 2, .int .i64 on, .int .i64 N, .int .i64 a, .int .i64 k, .slice la ll lc, .slice ra rl rc], .pointer (some ⟨bb, 0, none⟩)] w fun e w' => e = .returned (.bool true) ∧ StP w base xb tb rb bb m w' := by
  obtain ⟨W, hW⟩ : ∃ W, W = w.alloc (.cells #[.int .i64 2, .int .i64 on, .int .i64 N, .int .i64 a, .int .i64 k, .slice la ll lc, .slice ra rl rc] 46) := ⟨_, rfl⟩
  have XW := hide (show Below w.heap.size w W by rw [hW]; exact al (Below.refl _ _) _)
  have HP := hide (show W.heap[w.heap.size]? = some (.cells #[.int .i64 2, .int .i64 on, .int .i64 N, .int .i64 a, .int .i64 k, .slice la ll lc, .slice ra rl rc] 46 (0, 0)) by rw [hW]; exact heap_alloc_new w _)
  obtain ⟨P, hP⟩ : ∃ P, P = w.heap.size := ⟨_, rfl⟩
  rw [← hP] at HP
  have S1 := hide (h.below XW.out)
  have B1 := hide (hb.below XW.out)
  have p0 : W.cell? ⟨P, 0, none⟩ = some (.int .i64 2) := by rw [cell_of_row _ _ _ _ _ _ HP.out]; rfl
  obtain ⟨lv, ev, C1, C2⟩ := find_both (tb := tb) (rb := rb) (T := T) N
  have HC1 := hide C1
  have HC2 := hide C2
  clear C1 C2 h hb
  have HQ : Hid (∀ V, Below W.heap.size W V → V.cell? ⟨xb, 0, none⟩ = some (.pointer (some ⟨tb, 0, none⟩)) ∧ V.cell? ⟨xb, 1, none⟩ = some (.pointer (some ⟨rb, 0, none⟩)) ∧ V.cell? ⟨P, 2, none⟩ = some (.int .i64 N)) := fun V y => by
    have h1 := (S1.out.below y).blk
    have h2 := (y.block P (lt_of_block HP.out)).trans HP.out
    exact ⟨by rw [cell_of_row _ _ _ _ _ _ h1]; rfl, by rw [cell_of_row _ _ _ _ _ _ h1]; rfl, by rw [cell_of_row _ _ _ _ _ _ h2]; rfl⟩
  go_enter Try.func12, Try.ntmps12
  go_upto_region 1 with fail
  rw [← hW, ← hP]
  clear hW hP
  go_upto_region 6 with fail
  clear p0
  have HDr : Hid (Below W.heap.size W W.drew) := (Below.refl _ _).drew
  refine wp_region_quiet (C := fun w' => Below W.heap.size W w') (by kernel_rfl) (by kernel_rfl) HDr.out ?_
  refine QW.out (l := _ :: _) ?_
  iterate 6 (refine QW.take (by rfl) ?_; apply Exists.intro; refine ⟨fun w' hw' => ?_, ?_⟩; (· (obtain ⟨q1, q2, q3⟩ := HQ.out w' hw'; go_simp; first | done | rfl)); try simp only [Act.put, List.setIfInBounds_toArray, List.set_cons_zero, List.set_cons_succ])
  iterate 1 (refine QW.take (by rfl) ?_; apply Exists.intro; refine ⟨fun w' hw' => ?_, ?_⟩; (· (go_simp; (refine (HC1.out w' (S1.out.below hw').tr).mono ?_; rintro e w2 ⟨rfl, x2⟩; exact ⟨rfl, hw'.trans (x2.mono hw'.size)⟩))); try simp only [Act.put, List.setIfInBounds_toArray, List.set_cons_zero, List.set_cons_succ])
  iterate 5 (refine QW.take (by rfl) ?_; apply Exists.intro; refine ⟨fun w' hw' => ?_, ?_⟩; (· (go_simp; first | done | rfl)); try simp only [Act.put, List.setIfInBounds_toArray, List.set_cons_zero, List.set_cons_succ])
  refine QW.nil ?_
  intro w3 x3
  have X3 := hide x3
  clear x3
  have HQ3 : Hid (∀ V, Below w3.heap.size w3 V → V.cell? ⟨xb, 0, none⟩ = some (.pointer (some ⟨tb, 0, none⟩)) ∧ V.cell? ⟨xb, 1, none⟩ = some (.pointer (some ⟨rb, 0, none⟩)) ∧ V.cell? ⟨P, 2, none⟩ = some (.int .i64 N)) := fun V y => HQ.out V (X3.out.trans (y.mono X3.out.size))
  clear HQ
  go_upto_region 7 with fail
  have HDr2 : Hid (Below w3.heap.size w3 w3.drew) := (Below.refl _ _).drew
  refine wp_region_quiet (C := fun w' => Below w3.heap.size w3 w') (by kernel_rfl) (by kernel_rfl) HDr2.out ?_
  refine QW.out (l := _ :: _) ?_
  iterate 6 (refine QW.take (by rfl) ?_; apply Exists.intro; refine ⟨fun w' hw' => ?_, ?_⟩; (· (obtain ⟨q1, q2, q3⟩ := HQ3.out w' hw'; go_simp; first | done | rfl)); try simp only [Act.put, List.setIfInBounds_toArray, List.set_cons_zero, List.set_cons_succ])
  iterate 1 (refine QW.take (by rfl) ?_; apply Exists.intro; refine ⟨fun w' hw' => ?_, ?_⟩; (· (go_simp; (refine (HC2.out w' (S1.out.below (X3.out.trans (hw'.mono X3.out.size))).dt).mono ?_; rintro e w2 ⟨rfl, x2⟩; exact ⟨rfl, hw'.trans (x2.mono hw'.size)⟩))); try simp only [Act.put, List.setIfInBounds_toArray, List.set_cons_zero, List.set_cons_succ])
  iterate 5 (refine QW.take (by rfl) ?_; apply Exists.intro; refine ⟨fun w' hw' => ?_, ?_⟩; (· (go_simp; first | done | rfl)); try simp only [Act.put, List.setIfInBounds_toArray, List.set_cons_zero, List.set_cons_succ])
  refine QW.nil ?_
  intro w5 x5
  have X5 := hide (X3.out.trans (x5.mono X3.out.size))
  clear x5
  have hee : (ev == ev) = true := by simp
  have hll : (lv == lv) = true := by simp
  go_wp2
  go_ret
  exact ⟨by first | rfl | (simp; done), StP.start XW.out (StP.side S1.out B1.out (Kept.of_below X5.out) (S1.out.below X5.out) (.inl rfl) (.inl rfl))⟩
set_option maxRecDepth 100000 in
set_option maxHeartbeats 2000000 in
theorem stepMap {w : World} {base xb tb rb bb m : Nat} {T : Tr} (on N a k : Int) (la ra : Option Addr) (ll lc rl rc : Nat) (h : SdAt w xb tb rb T) (hb : Bk w base bb m) (L : List Int) (hll : ll = L.length) (hl : L.length ≤ 4294967296) (hat : ZAt w la L) (hne : ∀ b off, la = some ⟨b, off, none⟩ → L ≠ [] → b ≠ tb ∧ b ≠ rb) :
    Calls Try.prog 12 #[.pointer (some ⟨xb, 0, none⟩), .agg #[.int .i64 3, .int .i64 on, .int .i64 N, .int .i64 a, .int .i64 k, .slice la ll lc, .slice ra rl rc], .pointer (some ⟨bb, 0, none⟩)] w fun e w' => e = .returned (.bool true) ∧ StP w base xb tb rb bb m w' := by
  obtain ⟨W, hW⟩ : ∃ W, W = w.alloc (.cells #[.int .i64 3, .int .i64 on, .int .i64 N, .int .i64 a, .int .i64 k, .slice la ll lc, .slice ra rl rc] 46) := ⟨_, rfl⟩
  have XW := hide (show Below w.heap.size w W by rw [hW]; exact al (Below.refl _ _) _)
  have HP := hide (show W.heap[w.heap.size]? = some (.cells #[.int .i64 3, .int .i64 on, .int .i64 N, .int .i64 a, .int .i64 k, .slice la ll lc, .slice ra rl rc] 46 (0, 0)) by rw [hW]; exact heap_alloc_new w _)
  obtain ⟨P, hP⟩ : ∃ P, P = w.heap.size := ⟨_, rfl⟩
  rw [← hP] at HP
  have S1 := hide (h.below XW.out)
  have B1 := hide (hb.below XW.out)
  have p0 : W.cell? ⟨P, 0, none⟩ = some (.int .i64 3) := by rw [cell_of_row _ _ _ _ _ _ HP.out]; rfl
  have HMP := hide (maps_any la lc L hl (hat.below XW.out) hne S1.out)
  rw [← hll] at HMP
  have p5 : W.cell? ⟨P, 5, none⟩ = some (.slice la ll lc) := by rw [cell_of_row _ _ _ _ _ _ HP.out]; rfl
  clear h hb hat hne hll
  go_enter Try.func12, Try.ntmps12
  go_upto_region 1 with fail
  rw [← hW, ← hP]
  clear hW hP
  go_wp2_with (go_at_call 30; refine HMP.out.mono ?_; rintro e w3 ⟨rfl, hs3, hk3⟩; have S3 := hide hs3; have K3 := hide hk3; clear hs3 hk3)
  go_ret
  obtain ⟨T', hT'⟩ := S3.out
  exact ⟨rfl, StP.start XW.out (StP.side S1.out B1.out (K3.out.mono (fun j hj => .inr hj)) hT' (.inl rfl) (.inl rfl))⟩
set_option maxRecDepth 100000 in
set_option maxHeartbeats 2000000 in
theorem stepNew {w : World} {base xb tb rb bb m : Nat} {T : Tr} (on N a k : Int) (la ra : Option Addr) (ll lc rl rc : Nat) (h : SdAt w xb tb rb T) (hb : Bk w base bb m) :
    Calls Try.prog 12 #[.pointer (some ⟨xb, 0, none⟩), .agg #[.int .i64 5, .int .i64 on, .int .i64 N, .int .i64 a, .int .i64 k, .slice la ll lc, .slice ra rl rc], .pointer (some ⟨bb, 0, none⟩)] w fun e w' => e = .returned (.bool true) ∧ StP w base xb tb rb bb m w' := by
  obtain ⟨W, hW⟩ : ∃ W, W = w.alloc (.cells #[.int .i64 5, .int .i64 on, .int .i64 N, .int .i64 a, .int .i64 k, .slice la ll lc, .slice ra rl rc] 46) := ⟨_, rfl⟩
  have XW := hide (show Below w.heap.size w W by rw [hW]; exact al (Below.refl _ _) _)
  have HP := hide (show W.heap[w.heap.size]? = some (.cells #[.int .i64 5, .int .i64 on, .int .i64 N, .int .i64 a, .int .i64 k, .slice la ll lc, .slice ra rl rc] 46 (0, 0)) by rw [hW]; exact heap_alloc_new w _)
  obtain ⟨P, hP⟩ : ∃ P, P = w.heap.size := ⟨_, rfl⟩
  rw [← hP] at HP
  have S1 := hide (h.below XW.out)
  have B1 := hide (hb.below XW.out)
  have p0 : W.cell? ⟨P, 0, none⟩ = some (.int .i64 5) := by rw [cell_of_row _ _ _ _ _ _ HP.out]; rfl
  have p2 : W.cell? ⟨P, 2, none⟩ = some (.int .i64 N) := by rw [cell_of_row _ _ _ _ _ _ HP.out]; rfl
  clear h hb
  have hPl : P < W.heap.size := lt_of_block HP.out
  by_cases hlab : Lab N
  · have HN1 := hide (newL_any N hlab W)
    have HN2 : Hid (∀ V, Calls Try.prog 10 #[.int .i64 N] V fun e w' => (∃ b, e = .returned (.tuple #[.pointer (some ⟨b, 0, none⟩), .int .i64 0]) ∧ DtAt w' b (fun _ => N) ∧ V.heap.size ≤ b) ∧ Below V.heap.size V w') := fun V => (newD_any N V).mono fun e w' ⟨g1, g2⟩ => by
      rcases g1 with ⟨_, g1⟩ | ⟨g1, _⟩
      · exact ⟨g1, g2⟩
      · exact absurd hlab g1
    go_enter Try.func12, Try.ntmps12
    go_upto_region 1 with fail
    rw [← hW, ← hP]
    clear hW hP
    go_upto_region 32 with (first
      | (go_at_call 9; refine HN1.out.mono ?_; rintro e w3 ⟨⟨b3, rfl, ht3, hb3⟩, x3⟩; have T3 := hide ht3; have L3 := hide hb3; have X3 := hide x3; have p3 := (x3.cell (p := ⟨P, 2, none⟩) hPl).trans p2; clear ht3 hb3 x3 p0 p2)
      | (go_at_call 10; refine (HN2.out _).mono ?_; rintro e w4 ⟨⟨b4, rfl, hd4, hb4⟩, x4⟩; have D4 := hide hd4; have L4 := hide hb4; have X4 := hide (X3.out.trans (x4.mono X3.out.size)); have T4 := hide (T3.out.below x4); clear hd4 hb4 x4))
    clear HN1 HN2 p3
    have B4 := hide (S1.out.below X4.out).blk
    have q0 : w4.cell? ⟨xb, 0, none⟩ = some (.pointer (some ⟨tb, 0, none⟩)) := by rw [cell_of_row _ _ _ _ _ _ B4.out]; rfl
    have f0 := frozen_of_row w4 xb 0 _ _ B4.out
    go_upto_region 36 with fail
    have B5 := hide (sd_set0 B4.out (.pointer (some ⟨b3, 0, none⟩)))
    have K5 : Hid (Kept (fun j => j = xb) w4 (w4.setCell ⟨xb, 0, none⟩ (.pointer (some ⟨b3, 0, none⟩)))) := Kept.setCell (F := fun j => j = xb) (p := ⟨xb, 0, none⟩) (Kept.refl _ _) rfl _
    clear q0 f0
    generalize w4.setCell ⟨xb, 0, none⟩ (.pointer (some ⟨b3, 0, none⟩)) = w5 at *
    have q1 : w5.cell? ⟨xb, 1, none⟩ = some (.pointer (some ⟨rb, 0, none⟩)) := by rw [cell_of_row _ _ _ _ _ _ B5.out]; rfl
    have f1 := frozen_of_row w5 xb 1 _ _ B5.out
    go_wp2
    go_ret
    have K6 : Kept (fun j => j = xb) w4 (w5.setCell ⟨xb, 1, none⟩ (.pointer (some ⟨b4, 0, none⟩))) := Kept.setCell (F := fun j => j = xb) (p := ⟨xb, 1, none⟩) K5.out rfl _
    have hF : ∀ j, j = xb → ∃ cs t f, w4.heap[j]? = some (.cells cs t f) ∧ t = 39 := fun j hj => ⟨_, 39, _, by subst hj; exact B4.out, rfl⟩
    refine ⟨rfl, StP.start XW.out (StP.side S1.out B1.out ((Kept.of_below X4.out).trans (K6.mono (fun j hj => .inl hj))) (tb' := b3) (rb' := b4) (T' := .leaf N) ⟨sd_set1 B5.out _, T4.out.kept K6 (fun j hj => ?_), (D4.out.congr (fun _ _ => rfl)).kept K6 (fun j hj => ?_), trivial, hlab, by simp [Tr.dep]⟩ (.inr L3.out) (.inr (Nat.le_trans X3.out.size L4.out)))⟩
    · obtain ⟨cs, t, f, g1, g2⟩ := hF j hj
      exact ⟨cs, t, f, g1, by rw [g2]; decide, by rw [g2]; decide⟩
    · obtain ⟨cs, t, f, g1, g2⟩ := hF j hj
      exact ⟨cs, t, f, g1, by rw [g2]; decide, by rw [g2]; decide⟩
  · have HN1 : Hid (∀ V, Calls Try.prog 9 #[.int .i64 N] V fun e w' => e = .returned (.tuple #[.pointer none, .int .i64 1]) ∧ Below V.heap.size V w') := fun V => (new_any N V).mono fun e w' ⟨g1, g2⟩ => by
      rcases g1 with ⟨g1, _⟩ | ⟨_, g1⟩
      · exact absurd g1 hlab
      · exact ⟨g1, g2⟩
    have HN2 : Hid (∀ V, Calls Try.prog 10 #[.int .i64 N] V fun e w' => e = .returned (.tuple #[.pointer none, .int .i64 1]) ∧ Below V.heap.size V w') := fun V => (newD_any N V).mono fun e w' ⟨g1, g2⟩ => by
      rcases g1 with ⟨g1, _⟩ | ⟨_, g1⟩
      · exact absurd g1 hlab
      · exact ⟨g1, g2⟩
    go_enter Try.func12, Try.ntmps12
    go_upto_region 1 with fail
    rw [← hW, ← hP]
    clear hW hP
    go_wp2_with (first
      | (go_at_call 9; refine (HN1.out _).mono ?_; rintro e w3 ⟨rfl, x3⟩; have X3 := hide x3; have p3 := (x3.cell (p := ⟨P, 2, none⟩) hPl).trans p2; clear x3 p0 p2)
      | (go_at_call 10; refine (HN2.out _).mono ?_; rintro e w4 ⟨rfl, x4⟩; have X4 := hide (X3.out.trans (x4.mono X3.out.size)); clear x4))
    go_ret
    exact ⟨rfl, StP.start XW.out (StP.side S1.out B1.out (Kept.of_below X4.out) (S1.out.below X4.out) (.inl rfl) (.inl rfl))⟩
set_option maxRecDepth 100000 in
set_option maxHeartbeats 2000000 in
theorem stepMake {w : World} {base xb tb rb bb m : Nat} {T : Tr} (on N a k : Int) (la ra : Option Addr) (ll lc rl rc : Nat) (h : SdAt w xb tb rb T) (hb : Bk w base bb m) (R : List RZ) (hrl : rl = R.length) (hl : R.length ≤ 4294967296) (hat : RwAt w ra R) :
    Calls Try.prog 12 #[.pointer (some ⟨xb, 0, none⟩), .agg #[.int .i64 6, .int .i64 on, .int .i64 N, .int .i64 a, .int .i64 k, .slice la ll lc, .slice ra rl rc], .pointer (some ⟨bb, 0, none⟩)] w fun e w' => e = .returned (.bool true) ∧ StP w base xb tb rb bb m w' := by
  obtain ⟨W, hW⟩ : ∃ W, W = w.alloc (.cells #[.int .i64 6, .int .i64 on, .int .i64 N, .int .i64 a, .int .i64 k, .slice la ll lc, .slice ra rl rc] 46) := ⟨_, rfl⟩
  have XW := hide (show Below w.heap.size w W by rw [hW]; exact al (Below.refl _ _) _)
  have HP := hide (show W.heap[w.heap.size]? = some (.cells #[.int .i64 6, .int .i64 on, .int .i64 N, .int .i64 a, .int .i64 k, .slice la ll lc, .slice ra rl rc] 46 (0, 0)) by rw [hW]; exact heap_alloc_new w _)
  obtain ⟨P, hP⟩ : ∃ P, P = w.heap.size := ⟨_, rfl⟩
  rw [← hP] at HP
  have S1 := hide (h.below XW.out)
  have B1 := hide (hb.below XW.out)
  have p0 : W.cell? ⟨P, 0, none⟩ = some (.int .i64 6) := by rw [cell_of_row _ _ _ _ _ _ HP.out]; rfl
  have HMK := hide (madeC_any xb _ _ ra rc R W hl S1.out.blk (hat.below XW.out))
  rw [← hrl] at HMK
  have p6 : W.cell? ⟨P, 6, none⟩ = some (.slice ra rl rc) := by rw [cell_of_row _ _ _ _ _ _ HP.out]; rfl
  clear h hb hat hrl
  go_enter Try.func12, Try.ntmps12
  go_upto_region 1 with fail
  rw [← hW, ← hP]
  clear hW hP
  go_wp2_with (go_at_call 14; refine HMK.out.mono ?_; rintro e w3 ⟨rfl, hm3⟩; have M3 := hide hm3; clear hm3)
  go_ret
  obtain ⟨hk, hm⟩ := M3.out
  refine ⟨rfl, StP.start XW.out ?_⟩
  rcases hm with ⟨t, b, c, ⟨g1, g2, g3⟩, g4, g5, g6, g7, g8⟩ | hx
  · exact StP.side S1.out B1.out (hk.mono (fun j hj => .inl hj)) ⟨g8, g4, g5, g1, g2, g3⟩ (.inr g6) (.inr g7)
  · refine StP.side S1.out B1.out (hk.mono (fun j hj => .inl hj)) (T' := T) ⟨hx, S1.out.tr.kept hk (fun j hj => ?_), S1.out.dt.kept hk (fun j hj => ?_), S1.out.nf, S1.out.labs, S1.out.dep⟩ (.inl rfl) (.inl rfl)
    · subst hj; exact ⟨_, 39, _, S1.out.blk, by decide, by decide⟩
    · subst hj; exact ⟨_, 39, _, S1.out.blk, by decide, by decide⟩
set_option maxRecDepth 100000 in
set_option maxHeartbeats 2000000 in
theorem stepNone {w : World} {base xb tb rb bb m : Nat} {T : Tr} (K on N a k : Int) (la ra : Option Addr) (ll lc rl rc : Nat) (h : SdAt w xb tb rb T) (hb : Bk w base bb m) (hK : ¬ K = 1 ∧ ¬ K = 2 ∧ ¬ K = 3 ∧ ¬ K = 4 ∧ ¬ K = 5 ∧ ¬ K = 6 ∧ ¬ K = 7) :
    Calls Try.prog 12 #[.pointer (some ⟨xb, 0, none⟩), .agg #[.int .i64 K, .int .i64 on, .int .i64 N, .int .i64 a, .int .i64 k, .slice la ll lc, .slice ra rl rc], .pointer (some ⟨bb, 0, none⟩)] w fun e w' => e = .returned (.bool true) ∧ StP w base xb tb rb bb m w' := by
  obtain ⟨W, hW⟩ : ∃ W, W = w.alloc (.cells #[.int .i64 K, .int .i64 on, .int .i64 N, .int .i64 a, .int .i64 k, .slice la ll lc, .slice ra rl rc] 46) := ⟨_, rfl⟩
  have XW := hide (show Below w.heap.size w W by rw [hW]; exact al (Below.refl _ _) _)
  have HP := hide (show W.heap[w.heap.size]? = some (.cells #[.int .i64 K, .int .i64 on, .int .i64 N, .int .i64 a, .int .i64 k, .slice la ll lc, .slice ra rl rc] 46 (0, 0)) by rw [hW]; exact heap_alloc_new w _)
  obtain ⟨P, hP⟩ : ∃ P, P = w.heap.size := ⟨_, rfl⟩
  rw [← hP] at HP
  have S1 := hide (h.below XW.out)
  have B1 := hide (hb.below XW.out)
  have p0 : W.cell? ⟨P, 0, none⟩ = some (.int .i64 K) := by rw [cell_of_row _ _ _ _ _ _ HP.out]; rfl
  obtain ⟨k1, k2, k3, k4, k5, k6, k7⟩ := hK
  have j1 : (K == 1) = false := by simpa using k1
  have j2 : (K == 2) = false := by simpa using k2
  have j3 : (K == 3) = false := by simpa using k3
  have j4 : (K == 4) = false := by simpa using k4
  have j5 : (K == 5) = false := by simpa using k5
  have j6 : (K == 6) = false := by simpa using k6
  have j7 : (K == 7) = false := by simpa using k7
  clear h hb
  go_enter Try.func12, Try.ntmps12
  go_upto_region 1 with fail
  rw [← hW, ← hP]
  clear hW hP
  go_wp2
  go_ret
  exact ⟨rfl, StP.start XW.out (StP.side S1.out B1.out (Kept.refl _ _) S1.out (.inl rfl) (.inl rfl))⟩
end Go.Proofs.Ytnfdjbaafiifnaa
