/-
  Restrict by its contract. No condition.
-/
import Derived.Test.YtaafeflbanoncaaP18
namespace Go.Proofs.Ytaafeflbanoncaa
open Go.RowKit Go.Lib Go.Maps

section
variable {w : World} {a : Nat} {S : List Int} {M : Int} {N : List Nd} {m : Nat} {P : Nat → Prop} {f : Int} {l k : Nat}
theorem two_box (w : World) (x y : Value) (t : TypeId) : Below w.heap.size w ((w.alloc (.cells #[x] t)).alloc (.cells #[y] t)).drew ∧ ((w.alloc (.cells #[x] t)).alloc (.cells #[y] t)).drew.heap[w.heap.size]? = some (.cells #[x] t (0, 0)) ∧ ((w.alloc (.cells #[x] t)).alloc (.cells #[y] t)).drew.heap[w.heap.size + 1]? = some (.cells #[y] t (0, 0)) := by
  have y1 : Below w.heap.size w (w.alloc (.cells #[x] t)) := al (Below.refl _ _) _
  have b1 : (w.alloc (.cells #[x] t)).heap[w.heap.size]? = some (.cells #[x] t (0, 0)) := heap_alloc_new w _
  have s1 : (w.alloc (.cells #[x] t)).heap.size = w.heap.size + 1 := by simp
  generalize w.alloc (.cells #[x] t) = w1 at *
  have y2 : Below w1.heap.size w1 (w1.alloc (.cells #[y] t)) := al (Below.refl _ _) _
  have b2 : (w1.alloc (.cells #[y] t)).heap[w1.heap.size]? = some (.cells #[y] t (0, 0)) := heap_alloc_new w1 _
  rw [s1] at b2
  have y3 := bt y1 y2 (Nat.le_refl _)
  exact ⟨y3.drew, (y2.block _ (by omega)).trans b1, b2⟩
set_option maxRecDepth 100000 in
set_option maxHeartbeats 4000000 in
theorem restrict_ok (h : CA w a S M N m P) (hf : hasR N f) (hl : l < S.length) (hk : (k : Int) < S.getD l 0) :
    Calls Try.prog 26 #[.pointer (some ⟨a, 0, none⟩), .int .i64 f, .int .i64 (l : Int), .int .i64 (k : Int)] w fun e w' => OpL a S M N P (fun p => sayR N (upd p l k) f) w e w' := by
  obtain ⟨y1, nb1, nb2⟩ := two_box w (.int .i64 (l : Int)) (.int .i64 (k : Int)) 3
  have HH := hide h
  have HF := hide hf
  have HK := hide hk
  have X1 := hide y1
  have hs0 : szL S (l : Int) = S.getD l 0 := by unfold szL; rw [if_pos (by omega), Int.toNat_natCast]
  obtain ⟨s, hs⟩ : ∃ s, S.getD l 0 = s := ⟨_, rfl⟩
  have hks : ¬ s ≤ (k : Int) := by omega
  have hk0 : ¬ (k : Int) < 0 := by omega
  rw [hs] at hs0
  have HS0 := hide hs0
  have e1 : w.heap.size + 1 = w.heap.size + 1 := rfl
  clear h hf hk y1 hs0 hs e1
  go_enter Try.func26, Try.ntmps26
  go_upto_region 1 with fail
  have H1 := hide (HH.out.below X1.out)
  have NP1 : Hid (¬ P w.heap.size ∧ ¬ P (w.heap.size + 1)) := ⟨fun h => by have := HH.out.plt h; omega, fun h => by have := HH.out.plt h; omega⟩
  refine wp_unt (S := fun V => V.heap[w.heap.size]? = some (.cells #[.int .i64 (l : Int)] 3 (0, 0)) ∧ V.heap[w.heap.size + 1]? = some (.cells #[.int .i64 (k : Int)] 3 (0, 0))) 15 (by kernel_rfl) ?_
  generalize ((w.alloc (.cells #[.int .i64 (l : Int)] 3)).alloc (.cells #[.int .i64 (k : Int)] 3)).drew = w1 at *
  generalize hcb : w.heap.size + 1 = cb at *
  generalize hlb : w.heap.size = lb at *
  have HLB := hide hlb
  have HCB := hide hcb
  clear hlb hcb
  have hcell : ∀ V : World, V.heap[lb]? = some (.cells #[.int .i64 (l : Int)] 3 (0, 0)) ∧ V.heap[cb]? = some (.cells #[.int .i64 (k : Int)] 3 (0, 0)) → V.cell? ⟨lb, 0, none⟩ = some (.int .i64 (l : Int)) ∧ V.cell? ⟨cb, 0, none⟩ = some (.int .i64 (k : Int)) := fun V hV => ⟨by rw [cell_of_row V lb _ _ _ _ hV.1]; rfl, by rw [cell_of_row V cb _ _ _ _ hV.2]; rfl⟩
  have HC := hide hcell
  clear hcell
  have hS1 : w1.heap[lb]? = some (.cells #[.int .i64 (l : Int)] 3 (0, 0)) ∧ w1.heap[cb]? = some (.cells #[.int .i64 (k : Int)] 3 (0, 0)) := ⟨nb1, nb2⟩
  clear nb1 nb2
  refine UntH.take (i := 0) (some 11) rfl rfl (by kernel_rfl) (by kernel_rfl) (by kernel_rfl) (by kernel_rfl) (fun _ _ _ _ h => h) (by rfl) hS1 ?_
  apply Exists.intro
  refine ⟨fun w' hw' => ?_, ?_⟩
  · (obtain ⟨q0, q1⟩ := HC.out w' hw')
    go_simp
    first | done | rfl
  try simp only [Act.put, List.setIfInBounds_toArray, List.set_cons_zero, List.set_cons_succ]
  refine UntH.take (i := 1) (some 12) rfl rfl (by kernel_rfl) (by kernel_rfl) (by kernel_rfl) (by kernel_rfl) (fun _ _ _ _ h => h) (by rfl) hS1 ?_
  apply Exists.intro
  refine ⟨fun w' hw' => ?_, ?_⟩
  · (obtain ⟨q0, q1⟩ := HC.out w' hw')
    go_simp
    first | done | rfl
  try simp only [Act.put, List.setIfInBounds_toArray, List.set_cons_zero, List.set_cons_succ]
  have y2 : Below w1.heap.size w1 (w1.alloc (.cells #[.int .i64 f] 3)) := al (Below.refl _ _) _
  have hS2 : (w1.alloc (.cells #[.int .i64 f] 3)).heap[lb]? = some (.cells #[.int .i64 (l : Int)] 3 (0, 0)) ∧ (w1.alloc (.cells #[.int .i64 f] 3)).heap[cb]? = some (.cells #[.int .i64 (k : Int)] 3 (0, 0)) := ⟨(y2.block _ (lt_of_block hS1.1)).trans hS1.1, (y2.block _ (lt_of_block hS1.2)).trans hS1.2⟩
  have X2 : Hid (Below w.heap.size w (w1.alloc (.cells #[.int .i64 f] 3))) := by unfold Hid; rw [HLB.out]; exact bt X1.out y2 (by rw [HLB.out]; exact Nat.le_refl _)
  have AT := hide (areThere_any (some ⟨w1.heap.size, 0, none⟩) 1 [f] (by simp) (zat_new w1 [f]) (HH.out.below X2.out))
  refine UntH.step (i := 2) (by kernel_rfl) rfl (fun K hK => ?_)
  go_simp
  refine hK _ _ hS2 ?_
  clear hK K y2
  refine UntH.step (i := 3) (by kernel_rfl) rfl (fun K hK => ?_)
  go_simp
  refine AT.out.mono ?_
  rintro e w3 ⟨⟨b, rfl, hb⟩, x3⟩
  have hbt := hb.2 (by intro z hz; simp at hz; rw [hz]; exact HF.out)
  subst hbt
  have X3 := hide (bt X2.out x3 (Nat.le_refl _))
  have hS3 : w3.heap[lb]? = some (.cells #[.int .i64 (l : Int)] 3 (0, 0)) ∧ w3.heap[cb]? = some (.cells #[.int .i64 (k : Int)] 3 (0, 0)) := ⟨(x3.block _ (lt_of_block hS2.1)).trans hS2.1, (x3.block _ (lt_of_block hS2.2)).trans hS2.2⟩
  go_simp
  refine hK _ _ hS3 ?_
  clear hK K AT x3 hb hS1 hS2 X2
  refine UntH.take (i := 4) (some 15) rfl rfl (by kernel_rfl) (by kernel_rfl) (by kernel_rfl) (by kernel_rfl) (fun _ _ _ _ h => h) (by rfl) hS3 ?_
  apply Exists.intro
  refine ⟨fun w' hw' => ?_, ?_⟩
  · (obtain ⟨q0, q1⟩ := HC.out w' hw')
    go_simp
    first | done | rfl
  try simp only [Act.put, List.setIfInBounds_toArray, List.set_cons_zero, List.set_cons_succ]
  refine UntH.take (i := 5) (some 16) rfl rfl (by kernel_rfl) (by kernel_rfl) (by kernel_rfl) (by kernel_rfl) (fun _ _ _ _ h => h) (by rfl) hS3 ?_
  apply Exists.intro
  refine ⟨fun w' hw' => ?_, ?_⟩
  · (obtain ⟨q0, q1⟩ := HC.out w' hw')
    go_simp
    first | done | rfl
  try simp only [Act.put, List.setIfInBounds_toArray, List.set_cons_zero, List.set_cons_succ]
  refine UntH.take (i := 6) (some 17) rfl rfl (by kernel_rfl) (by kernel_rfl) (by kernel_rfl) (by kernel_rfl) (fun _ _ _ _ h => h) (by rfl) hS3 ?_
  apply Exists.intro
  refine ⟨fun w' hw' => ?_, ?_⟩
  · (obtain ⟨q0, q1⟩ := HC.out w' hw')
    go_simp
    first | done | rfl
  try simp only [Act.put, List.setIfInBounds_toArray, List.set_cons_zero, List.set_cons_succ]
  refine UntH.take (i := 7) (some 18) rfl rfl (by kernel_rfl) (by kernel_rfl) (by kernel_rfl) (by kernel_rfl) (fun _ _ _ _ h => h) (by rfl) hS3 ?_
  apply Exists.intro
  refine ⟨fun w' hw' => ?_, ?_⟩
  · (obtain ⟨q0, q1⟩ := HC.out w' hw')
    go_simp
    first | done | rfl
  try simp only [Act.put, List.setIfInBounds_toArray, List.set_cons_zero, List.set_cons_succ]
  refine UntH.take (i := 8) (some 19) rfl rfl (by kernel_rfl) (by kernel_rfl) (by kernel_rfl) (by kernel_rfl) (fun _ _ _ _ h => h) (by rfl) hS3 ?_
  apply Exists.intro
  refine ⟨fun w' hw' => ?_, ?_⟩
  · (obtain ⟨q0, q1⟩ := HC.out w' hw')
    go_simp
    first | done | rfl
  try simp only [Act.put, List.setIfInBounds_toArray, List.set_cons_zero, List.set_cons_succ]
  refine UntH.take (i := 9) (some 20) rfl rfl (by kernel_rfl) (by kernel_rfl) (by kernel_rfl) (by kernel_rfl) (fun _ _ _ _ h => h) (by rfl) hS3 ?_
  apply Exists.intro
  refine ⟨fun w' hw' => ?_, ?_⟩
  · (obtain ⟨q0, q1⟩ := HC.out w' hw')
    go_simp
    first | done | rfl
  try simp only [Act.put, List.setIfInBounds_toArray, List.set_cons_zero, List.set_cons_succ]
  refine UntH.take (i := 10) (some 21) rfl rfl (by kernel_rfl) (by kernel_rfl) (by kernel_rfl) (by kernel_rfl) (fun _ _ _ _ h => h) (by rfl) hS3 ?_
  apply Exists.intro
  refine ⟨fun w' hw' => ?_, ?_⟩
  · (obtain ⟨q0, q1⟩ := HC.out w' hw')
    go_simp
    first | done | rfl
  try simp only [Act.put, List.setIfInBounds_toArray, List.set_cons_zero, List.set_cons_succ]
  refine UntH.take (i := 11) (some 22) rfl rfl (by kernel_rfl) (by kernel_rfl) (by kernel_rfl) (by kernel_rfl) (fun _ _ _ _ h => h) (by rfl) hS3 ?_
  apply Exists.intro
  refine ⟨fun w' hw' => ?_, ?_⟩
  · (obtain ⟨q0, q1⟩ := HC.out w' hw')
    go_simp
    first | done | rfl
  try simp only [Act.put, List.setIfInBounds_toArray, List.set_cons_zero, List.set_cons_succ]
  refine UntH.take (i := 12) (some 23) rfl rfl (by kernel_rfl) (by kernel_rfl) (by kernel_rfl) (by kernel_rfl) (fun _ _ _ _ h => h) (by rfl) hS3 ?_
  apply Exists.intro
  refine ⟨fun w' hw' => ?_, ?_⟩
  · (obtain ⟨q0, q1⟩ := HC.out w' hw')
    go_simp
    first | done | rfl
  try simp only [Act.put, List.setIfInBounds_toArray, List.set_cons_zero, List.set_cons_succ]
  have SZ := sizeOf_any (l : Int) (HH.out.below X3.out)
  rw [HS0.out] at SZ
  have HSZ := hide SZ
  clear SZ
  refine UntH.step (i := 13) (by kernel_rfl) rfl (fun K hK => ?_)
  go_simp
  refine HSZ.out.mono ?_
  rintro e w4 ⟨rfl, x4⟩
  have X4 := hide (bt X3.out x4 (Nat.le_refl _))
  have hS4 : w4.heap[lb]? = some (.cells #[.int .i64 (l : Int)] 3 (0, 0)) ∧ w4.heap[cb]? = some (.cells #[.int .i64 (k : Int)] 3 (0, 0)) := ⟨(x4.block _ (lt_of_block hS3.1)).trans hS3.1, (x4.block _ (lt_of_block hS3.2)).trans hS3.2⟩
  go_simp
  refine hK _ _ hS4 ?_
  clear hK K HSZ x4 hS3
  refine UntH.take (i := 14) (some 25) rfl rfl (by kernel_rfl) (by kernel_rfl) (by kernel_rfl) (by kernel_rfl) (fun _ _ _ _ h => h) (by rfl) hS4 ?_
  apply Exists.intro
  refine ⟨fun w' hw' => ?_, ?_⟩
  · skip
    go_simp
    first | done | rfl
  try simp only [Act.put, List.setIfInBounds_toArray, List.set_cons_zero, List.set_cons_succ]
  refine UntH.last (by kernel_rfl) rfl (by kernel_rfl) (by kernel_rfl) (fun K hK => ?_)
  go_simp
  refine hK _ _ ?_
  clear hK K
  have HS4 := hide hS4
  clear hS4
  have NM := hide (newMemory_any a w4)
  go_upto_region 4 with (go_at_call 60; refine NM.out.mono ?_; rintro e w5 ⟨mm, rb, kb, kv, rfl, nm⟩; have NW := hide nm; clear nm)
  clear NM
  have y6 : Below w5.heap.size w5 (w5.alloc (.cells #[.pointer (some ⟨mm, 0, none⟩)] 103)) := al (Below.refl _ _) _
  have nb6 : (w5.alloc (.cells #[.pointer (some ⟨mm, 0, none⟩)] 103)).heap[w5.heap.size]? = some (.cells #[.pointer (some ⟨mm, 0, none⟩)] 103 (0, 0)) := heap_alloc_new w5 _
  have NW6 : Hid (NwM w4 (w5.alloc (.cells #[.pointer (some ⟨mm, 0, none⟩)] 103)) a mm rb kb kv) := by
    have h := NW.out
    exact ⟨bt h.bel y6 (Nat.le_refl _), (y6.block _ (lt_of_block h.blk)).trans h.blk, (y6.block _ (lt_of_block2 h.rbk)).trans h.rbk, (y6.block _ (lt_of_block2 h.kbk)).trans h.kbk, h.ne, h.m1, h.m2, h.m3⟩
  have SZ5 : Hid (w4.heap.size ≤ w5.heap.size ∧ mm < w5.heap.size ∧ rb < w5.heap.size ∧ kb < w5.heap.size) := ⟨NW.out.bel.size, lt_of_block NW.out.blk, lt_of_block2 NW.out.rbk, lt_of_block2 NW.out.kbk⟩
  generalize w5.alloc (.cells #[.pointer (some ⟨mm, 0, none⟩)] 103) = w6 at *
  generalize w5.heap.size = mb at *
  have mb0 : w6.cell? ⟨mb, 0, none⟩ = some (.pointer (some ⟨mm, 0, none⟩)) := by rw [cell_of_row _ _ _ _ _ _ nb6]; rfl
  have c1 : w6.cell? ⟨mm, 1, none⟩ = some kv := by rw [cell_of_row _ _ _ _ _ _ NW6.out.blk]; rfl
  have f1 := frozen_of_row w6 mm 1 _ _ NW6.out.blk
  have NB6 := hide nb6
  clear y6 nb6
  have NW7 : Hid (NwM w4 (w6.setCell ⟨mm, 1, none⟩ (.func (.func 61) #[] #[.pointer (some ⟨mb, 0, none⟩), .pointer (some ⟨lb, 0, none⟩), .pointer (some ⟨cb, 0, none⟩)])) a mm rb kb (.func (.func 61) #[] #[.pointer (some ⟨mb, 0, none⟩), .pointer (some ⟨lb, 0, none⟩), .pointer (some ⟨cb, 0, none⟩)])) := by
    have h := NW6.out
    have hr : rb ≠ mm := fun e => by have h1 := h.blk; rw [← e, h.rbk] at h1; cases h1
    have hk : kb ≠ mm := fun e => by have h1 := h.blk; rw [← e, h.kbk] at h1; cases h1
    exact ⟨bl h.bel h.m1 _ _, by rw [block_setCell h.blk 1]; rfl, (Below.heap_setCell _ _ _ _ hr).trans h.rbk, (Below.heap_setCell _ _ _ _ hk).trans h.kbk, h.ne, h.m1, h.m2, h.m3⟩
  have NB7 : Hid ((w6.setCell ⟨mm, 1, none⟩ (.func (.func 61) #[] #[.pointer (some ⟨mb, 0, none⟩), .pointer (some ⟨lb, 0, none⟩), .pointer (some ⟨cb, 0, none⟩)])).heap[mb]? = some (.cells #[.pointer (some ⟨mm, 0, none⟩)] 103 (0, 0))) := (Below.heap_setCell _ _ _ _ (fun e => by have h1 := SZ5.out; have e' : mb = mm := e; omega)).trans NB6.out
  go_upto_region 5 with fail
  generalize w6.setCell ⟨mm, 1, none⟩ (.func (.func 61) #[] #[.pointer (some ⟨mb, 0, none⟩), .pointer (some ⟨lb, 0, none⟩), .pointer (some ⟨cb, 0, none⟩)]) = w7 at *
  have HL7 : Hid (w7.heap[lb]? = some (.cells #[.int .i64 (l : Int)] 3 (0, 0)) ∧ w7.heap[cb]? = some (.cells #[.int .i64 (k : Int)] 3 (0, 0))) := ⟨(NW7.out.bel.block _ (lt_of_block HS4.out.1)).trans HS4.out.1, (NW7.out.bel.block _ (lt_of_block HS4.out.2)).trans HS4.out.2⟩
  have C : Hid (∃ c : Cf, c = ⟨a, S, M, mm, rb, kb, (.func (.func 61) #[] #[.pointer (some ⟨mb, 0, none⟩), .pointer (some ⟨lb, 0, none⟩), .pointer (some ⟨cb, 0, none⟩)]), fun a _ => a, fun p => upd p l k, True, bxs mm mb lb cb l k⟩) := ⟨_, rfl⟩
  obtain ⟨c, hc⟩ := C.out
  have MS7 : Hid (MS w7 c N P (fun _ => False)) := MS.starts (w0 := w4) (m := m) (by rw [hc]; exact HH.out.below X4.out) (by rw [hc]; exact NW7.out) (by
    rw [hc]
    have h1 := SZ5.out
    have h2 := NP1.out
    have h3 := NW7.out
    have h4 := lt_of_block HS4.out.1
    have h5 := lt_of_block HS4.out.2
    have h6 := h3.m2
    have h7 := h3.m3
    have h8 : ¬ P mb := fun hp => by have := (HH.out.below X4.out).plt hp; omega
    intro y hy
    simp only [bxs, List.mem_cons, List.mem_nil_iff, or_false] at hy
    rcases hy with rfl | rfl | rfl
    · exact ⟨NB7.out, h8, by show mb ≠ rb; omega, by show mb ≠ kb; omega⟩
    · exact ⟨HL7.out.1, h2.1, by show lb ≠ rb; omega, by show lb ≠ kb; omega⟩
    · exact ⟨HL7.out.2, h2.2, by show cb ≠ rb; omega, by show cb ≠ kb; omega⟩)
  have KC := hide (rsc_c (c := c) (mb := mb) (lb := lb) (cb := cb) (l := l) (k := k) (by rw [hc]) (by rw [hc]) (by rw [hc]) (by rw [hc]) (by rw [hc]) (by rw [hc]; exact hl) (by rw [hc]; exact HK.out))
  have RS := result_any (f := f) (g := 0) KC.out MS7.out HF.out ⟨by omega, by omega⟩ (fun _ => rfl)
  have hmm : c.mm = mm := by rw [hc]
  rw [hmm] at RS
  have RS2 := hide RS
  have HCC := hide hc
  have e0 : w7.cell? ⟨mb, 0, none⟩ = some (.pointer (some ⟨mm, 0, none⟩)) := by rw [cell_of_row _ _ _ _ _ _ NB7.out]; rfl
  clear RS hc hmm c1 f1 mb0
  go_wp2_with (go_at_call 64; refine RS2.out.mono ?_; rintro e w8 ⟨r, er, N', P', rfl, ca5, k5, p5, ok5⟩; have CA5 := hide ca5; have K5 := hide k5; have P5 := hide p5; have OK5 := hide ok5; clear ca5 k5 p5 ok5)
  go_ret2
  have hsz : w.heap.size ≤ w7.heap.size := Nat.le_trans X4.out.size NW7.out.bel.size
  have hx : Kept P w w7 := (Kept.of_below X4.out).trans (Kept.of_below NW7.out.bel)
  have hca := CA5.out
  have hok := OK5.out
  have hk5 := K5.out
  rw [HCC.out] at hca hok hk5
  refine ⟨r, er, N', P', rfl, hca, hx.trans_new hk5 (fun b hb hF => ?_), fun b hb => (P5.out b hb).imp id (Nat.le_trans hsz), ?_⟩
  · rcases hF with h1 | h1 | h1
    · exact h1
    · have h2 := NW7.out.m2
      have h3 := X4.out.size
      have h4 : b = rb := h1
      omega
    · have h2 := NW7.out.m3
      have h3 := X4.out.size
      have h4 : b = kb := h1
      omega
  · have ok0 := HH.out.ok
    have hq := KC.out.hq
    have hg0 := phi_hang (f := f) (g := 0) (l := 0) hq (by rw [HCC.out]; exact ok0) HF.out ⟨by omega, by omega⟩ (by rw [HCC.out]; exact (ok0.lvl_le HF.out).1) (by rw [HCC.out]; exact (ok0.lvl_le (f := 0) ⟨by omega, by omega⟩).1)
    rw [HCC.out] at hg0
    refine ⟨hg0, ?_⟩
    rcases hok with ⟨h1, ⟨T, h2⟩, h3, h4⟩ | ⟨h1, h2, h3, h4⟩
    · subst h2
      exact .inl ⟨h1, ⟨T, rfl⟩, ⟨h3.has, fun p hp => by
        have h5 := h3.say p hp
        rw [h5]
        exact sayR_app HH.out.ok (hp.upd HK.out) HF.out⟩, h4⟩
    · exact .inr ⟨h1, h2, h3, h4⟩
end
end Go.Proofs.Ytaafeflbanoncaa
