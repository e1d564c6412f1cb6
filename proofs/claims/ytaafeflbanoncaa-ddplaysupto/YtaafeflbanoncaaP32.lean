/-
  The document's operations of two refs: two, And, Or, Xor, Not. No condition.
-/
import Derived.Test.YtaafeflbanoncaaP31
import Derived.Test.YtaafeflbanoncaaP20
namespace Go.Proofs.Ytaafeflbanoncaa
open Go.RowKit Go.Lib Go.Maps

theorem Try.info132 : (Try.prog.info? 132).map (fun i => (i.zero, i.size, i.bytes)) = some (some (.slice none 0 0), 1, 24) := by kernel_rfl
theorem make_lists (n : Nat) (L : Int) (hL : L = (n : Int)) (hn : n ≤ 100000) (V : World) : (Instr.makeSlice 126 (.int .i64 L) (.int .i64 L)).run Try.prog V = .ok (.slice (some ⟨V.heap.size, 0, none⟩) n n) (V.alloc (.cells (Array.replicate n (.slice none 0 0)) 132)) := by
  subst hL
  have := run_make_row' (P := Try.prog) 126 132 (.slice none 0 0) 24 Try.underlying126 Try.info132 rfl .i64 .i64 n (by omega) (by omega) V
  rw [made_cells, List.toArray_replicate] at this
  rw [this]
/-- What an operation of the document leaves. -/
def OdL (x : Nat) (S : List Int) (M : Int) (N : List Nd) (Q : Nat → Prop) (φ : (Nat → Nat) → Bool) (w : World) (e : Ending) (w' : World) : Prop :=
  ∃ r er N' Q', e = .returned (.tuple #[.int .i64 r, .int .i64 er]) ∧ RA w' x S M N' Q' ∧ Kept Q w w' ∧ Gw w Q Q' ∧ Hang S φ 0 ∧ ((er = 0 ∧ (∃ T, N' = N ++ T) ∧ Rep S N' φ r ∧ ins S M N φ = (r, 0, N')) ∨ (er = 2 ∧ r = 0 ∧ N' = N ∧ ∃ N1, ins S M N φ = (0, 2, N1)))
section
variable {w : World} {x : Nat} {S : List Int} {M : Int} {N : List Nd} {Q : Nat → Prop}
theorem nil_getD (n i : Nat) : (List.replicate n nlV).getD i nlV = nlV := by
  rw [List.getD_eq_getElem?_getD, List.getElem?_replicate]
  split <;> rfl
theorem nil_own {d : Df} {n k : Nat} : ¬ OwV d (List.replicate n nlV) k := fun ⟨i, _, hk⟩ => by
  rw [nil_getD] at hk
  cases hk
theorem DM.starts {what : Int} {n : Nat} {w1 w2 : World} (h : RA w x S M N Q) (hn : n = N.length + 2) (h1 : w1 = w.alloc (.cells (Array.replicate n (.slice none 0 0)) 132)) (h2 : w2 = w1.alloc (.cells #[.pointer (some ⟨x, 0, none⟩), .int .i64 what, .slice (some ⟨w.heap.size, 0, none⟩) n n, .int .i64 0] 128)) :
    DM w2 ⟨x, S, M, w.heap.size + 1, w.heap.size, n, what⟩ 0 N Q (fun _ => []) (List.replicate n nlV) 0 ∧ Below w.heap.size w w2 := by
  have y1 : Below w.heap.size w w1 := by rw [h1]; exact al (Below.refl _ _) _
  have y2 : Below w1.heap.size w1 w2 := by rw [h2]; exact al (Below.refl _ _) _
  have b1 : w1.heap[w.heap.size]? = some (.cells (List.replicate n nlV).toArray 132 (0, 0)) := by rw [h1, List.toArray_replicate]; exact heap_alloc_new w _
  have y12 : Below w.heap.size w w2 := bt y1 y2 (Nat.le_refl _)
  refine ⟨⟨h.below y12, ?_, (y2.block _ (lt_of_block b1)).trans b1, List.length_replicate, fun f hf => ?_, fun f f' _ _ _ k hk => ?_, fun hq => ?_, fun hq => ?_, fun k hk => absurd hk nil_own, ?_, fun _ f _ => List.nodup_nil, fun _ f _ e he => absurd he List.not_mem_nil⟩, y12⟩
  · unfold DBk
    have e : w1.heap.size = w.heap.size + 1 := by rw [h1]; simp
    rw [h2, ← e]
    exact heap_alloc_new w1 _
  · rw [nil_getD]
    exact World.ownsRow_nil _ _ _ _
  · rw [nil_getD] at hk
    cases hk
  · have h3 : w.heap.size + 1 < w.heap.size := h.plt hq
    omega
  · have h3 : w.heap.size < w.heap.size := h.plt hq
    omega
  · simp only
    omega
set_option maxRecDepth 100000 in
set_option maxHeartbeats 2000000 in
theorem two_ok {what f g : Int} (h : RA w x S M N Q) (hf : hasR N f) (hg : hasR N g) :
    Calls Try.prog 72 #[.pointer (some ⟨x, 0, none⟩), .int .i64 what, .int .i64 f, .int .i64 g] w fun e w' => OdL x S M N Q (fun p => opD what (sayR N p f) (sayR N p g)) w e w' := by
  have hok := h.ok
  have hH1 := h.has f
  have hH2 := h.has g
  rw [(hasN_iff N rfl).2 hf] at hH1
  rw [(hasN_iff N rfl).2 hg] at hH2
  have H1 := hide hH1
  have H2 := hide hH2
  have H3 := hide h.len
  have hfew : N.length ≤ 8192 := by have := hok.few; have := hok.m1; omega
  have hmk := make_lists (N.length + 2) ((N.length : Int) + 2) (by omega) (by omega)
  obtain ⟨m2, y2⟩ := DM.starts (what := what) h rfl rfl rfl
  have M2 := hide m2
  have Y2 := hide y2
  have HOK := hide hok
  have HF := hide hf
  have HG := hide hg
  have HPL : Hid (∀ k, Q k → k < w.heap.size) := fun k hk => h.plt hk
  clear h hH1 hH2 m2 y2 hok
  go_enter Try.func72, Try.ntmps72
  go_upto_region 2 with (go_at_call 52; refine H1.out.mono ?_; rintro e w1 ⟨rfl, hw1⟩; have hw2 := hw1.symm; clear hw1; subst hw2)
  go_upto_region 3 with (go_at_call 52; refine H2.out.mono ?_; rintro e w1 ⟨rfl, hw1⟩; have hw2 := hw1.symm; clear hw1; subst hw2)
  go_upto_region 6 with (go_at_call 10; refine H3.out.mono ?_; rintro e w1 ⟨rfl, hw1⟩; have hw2 := hw1.symm; clear hw1; subst hw2)
  clear H1 H2 H3
  go_upto_region 7 with fail
  clear hmk
  generalize w.alloc (.cells (Array.replicate (N.length + 2) (.slice none 0 0)) 132) = w1 at *
  generalize w1.alloc (.cells #[.pointer (some ⟨x, 0, none⟩), .int .i64 what, .slice (some ⟨w.heap.size, 0, none⟩) (N.length + 2) (N.length + 2), .int .i64 0] 128) = w2 at *
  have HAP := hide (apply_any S.length w2 N Q (fun _ => []) (List.replicate (N.length + 2) nlV) f g M2.out (Nat.zero_le _) ⟨HF.out.1, by have := HF.out.2; simp only; omega⟩ ⟨HG.out.1, by have := HG.out.2; simp only; omega⟩ (by have := HOK.out.lvl_le HF.out; have := HOK.out.lvl_le HG.out; simp only; omega))
  clear M2
  go_upto_region 8 with (go_at_call 80; refine HAP.out.mono ?_; rintro e w3 ⟨r, er, N3, Q3, LR3, V3, rfl, m3, e3, k3, p3, o3, in3, ok3⟩; have M3 := hide m3; have E3 := hide e3; have K3 := hide k3; have P3 := hide p3; have IN3 := hide in3; have OK3 := hide ok3; clear m3 e3 k3 p3 o3 in3 ok3)
  clear HAP
  have c3 := M3.out.blk.cells.2.2.2
  have KQ : Hid (Kept Q w w3 ∧ Gw w Q Q3) := by
    refine ⟨(Kept.of_below Y2.out).trans_new K3.out (fun b hb hF => ?_), fun b hb => (P3.out b hb).imp id (Nat.le_trans Y2.out.size)⟩
    rcases hF with h1 | h1 | h1 | h1
    · exact h1
    · have h2 : b = w.heap.size + 1 := h1
      omega
    · have h2 : b = w.heap.size := h1
      omega
    · exact absurd h1 nil_own
  have HHG : Hid (Hang S (fun p => opD what (sayR N p f) (sayR N p g)) 0) := (phi_hang (c := cfD ⟨x, S, M, w.heap.size + 1, w.heap.size, N.length + 2, what⟩) (cfD_q _) HOK.out HF.out HG.out (l := 0) (HOK.out.lvl_le HF.out).1 (HOK.out.lvl_le HG.out).1)
  rcases OK3.out with ⟨rfl, pt, _⟩ | ⟨rfl, rfl⟩
  · have FIN : Hid (OdL x S M N Q (fun p => opD what (sayR N p f) (sayR N p g)) w (.returned (.tuple #[.int .i64 r, .int .i64 0])) w3) := by
      refine ⟨r, 0, N3, Q3, rfl, M3.out.ra, KQ.out.1, KQ.out.2, HHG.out, .inl ⟨rfl, E3.out, ⟨pt.has, fun p hp => ?_⟩, IN3.out⟩⟩
      obtain ⟨T, hT⟩ := E3.out
      have := pt.say p hp
      rw [this, hT, sayR_app HOK.out hp HF.out, sayR_app HOK.out hp HG.out]
    clear pt
    go_wp2
    go_ret2
    exact FIN.out
  · obtain ⟨T, hT⟩ := E3.out
    have HBK := hide (M3.out.ra.back (N.length : Int))
    have BK : Hid (∀ e w', BkL N3 (N.length : Int) w3 e w' (fun N' V => RA V x S M N' Q3) Q3 → e = .returned (.int .i64 0) ∧ RA w' x S M N Q3 ∧ Kept Q3 w3 w') := fun e w' hb => by
      rcases hb with ⟨_, _, h3, h4, h5⟩ | ⟨h1, _⟩
      · refine ⟨h3, ?_, h5⟩
        rw [hT, Int.toNat_natCast, List.take_left] at h4
        exact h4
      · exact absurd ⟨by omega, by rw [hT, List.length_append]; omega⟩ h1
    clear hT
    go_upto_region 10 with (go_at_call 19; refine HBK.out.mono ?_; rintro e w4 hb; obtain ⟨rfl, ra4, k4⟩ := BK.out e w4 hb; have RA4 := hide ra4; have K4 := hide k4; clear hb ra4 k4)
    clear HBK BK c3
    have c4 : w4.drew.cell? ⟨w.heap.size + 1, 3, none⟩ = some (.int .i64 2) := by
      have hb := (K4.out.block _ (lt_of_block M3.out.blk) M3.out.nm).trans M3.out.blk
      exact (cell_of_row w4 (w.heap.size + 1) 3 _ _ _ hb).trans rfl
    have yd : Below w4.heap.size w4 w4.drew := (Below.refl _ _).drew
    have FIN : Hid (OdL x S M N Q (fun p => opD what (sayR N p f) (sayR N p g)) w (.returned (.tuple #[.int .i64 0, .int .i64 2])) w4.drew) := ⟨0, 2, N, Q3, rfl, RA4.out.below yd, (KQ.out.1.trans_new K4.out (fun b hb h1 => (KQ.out.2 b h1).elim id (fun h2 => by omega))).drew, KQ.out.2, HHG.out, .inr ⟨rfl, rfl, rfl, _, IN3.out⟩⟩
    clear yd
    refine wp_unt (S := fun V => V = w4.drew) 5 (by kernel_rfl) ?_
    generalize w4.drew = w5 at *
    refine UntH.take (i := 0) (some 48) rfl rfl (by kernel_rfl) (by kernel_rfl) (by kernel_rfl) (by kernel_rfl) (fun _ _ _ _ h => h) (by rfl) rfl ?_
    apply Exists.intro
    refine ⟨fun w' hw' => ?_, ?_⟩
    · subst hw'
      go_simp
      first | done | rfl
    try simp only [Act.put, List.setIfInBounds_toArray, List.set_cons_zero, List.set_cons_succ]
    refine UntH.take (i := 1) (some 49) rfl rfl (by kernel_rfl) (by kernel_rfl) (by kernel_rfl) (by kernel_rfl) (fun _ _ _ _ h => h) (by rfl) rfl ?_
    apply Exists.intro
    refine ⟨fun w' hw' => ?_, ?_⟩
    · subst hw'
      go_simp
      first | done | rfl
    try simp only [Act.put, List.setIfInBounds_toArray, List.set_cons_zero, List.set_cons_succ]
    refine UntH.take (i := 2) (some 50) rfl rfl (by kernel_rfl) (by kernel_rfl) (by kernel_rfl) (by kernel_rfl) (fun _ _ _ _ h => h) (by rfl) rfl ?_
    apply Exists.intro
    refine ⟨fun w' hw' => ?_, ?_⟩
    · subst hw'
      go_simp
      first | done | rfl
    try simp only [Act.put, List.setIfInBounds_toArray, List.set_cons_zero, List.set_cons_succ]
    refine UntH.take (i := 3) (some 51) rfl rfl (by kernel_rfl) (by kernel_rfl) (by kernel_rfl) (by kernel_rfl) (fun _ _ _ _ h => h) (by rfl) rfl ?_
    apply Exists.intro
    refine ⟨fun w' hw' => ?_, ?_⟩
    · subst hw'
      go_simp
      first | done | rfl
    try simp only [Act.put, List.setIfInBounds_toArray, List.set_cons_zero, List.set_cons_succ]
    refine UntH.take (i := 4) (some 8) rfl rfl (by kernel_rfl) (by kernel_rfl) (by kernel_rfl) (by kernel_rfl) (fun _ _ _ _ h => h) (by rfl) rfl ?_
    apply Exists.intro
    refine ⟨fun w' hw' => ?_, ?_⟩
    · subst hw'
      go_simp
      first | done | rfl
    try simp only [Act.put, List.setIfInBounds_toArray, List.set_cons_zero, List.set_cons_succ]
    refine UntH.last (by kernel_rfl) rfl (by kernel_rfl) (by kernel_rfl) (fun K hK => ?_)
    go_simp
    refine hK _ _ ?_
    clear hK K c4
    go_wp2
    go_ret2
    exact FIN.out
set_option maxRecDepth 100000 in
theorem andD_ok {f g : Int} (h : RA w x S M N Q) (hf : hasR N f) (hg : hasR N g) : Calls Try.prog 38 #[.pointer (some ⟨x, 0, none⟩), .int .i64 f, .int .i64 g] w fun e w' => OdL x S M N Q (fun p => sayR N p f && sayR N p g) w e w' := by
  have H1 := hide (two_ok (what := 1) h hf hg)
  clear h hf hg
  go_enter Try.func38, Try.ntmps38
  go_wp2_with (go_at_call 72; refine H1.out.mono ?_; rintro e w1 ⟨r, er, N', Q', rfl, h1⟩; have HR := hide h1; clear h1)
  go_ret2
  exact ⟨r, er, N', Q', rfl, HR.out⟩
set_option maxRecDepth 100000 in
theorem orD_ok {f g : Int} (h : RA w x S M N Q) (hf : hasR N f) (hg : hasR N g) : Calls Try.prog 40 #[.pointer (some ⟨x, 0, none⟩), .int .i64 f, .int .i64 g] w fun e w' => OdL x S M N Q (fun p => sayR N p f || sayR N p g) w e w' := by
  have H1 := hide (two_ok (what := 2) h hf hg)
  clear h hf hg
  go_enter Try.func40, Try.ntmps40
  go_wp2_with (go_at_call 72; refine H1.out.mono ?_; rintro e w1 ⟨r, er, N', Q', rfl, h1⟩; have HR := hide h1; clear h1)
  go_ret2
  exact ⟨r, er, N', Q', rfl, HR.out⟩
set_option maxRecDepth 100000 in
theorem xorD_ok {f g : Int} (h : RA w x S M N Q) (hf : hasR N f) (hg : hasR N g) : Calls Try.prog 42 #[.pointer (some ⟨x, 0, none⟩), .int .i64 f, .int .i64 g] w fun e w' => OdL x S M N Q (fun p => sayR N p f != sayR N p g) w e w' := by
  have H1 := hide (two_ok (what := 3) h hf hg)
  clear h hf hg
  go_enter Try.func42, Try.ntmps42
  go_wp2_with (go_at_call 72; refine H1.out.mono ?_; rintro e w1 ⟨r, er, N', Q', rfl, h1⟩; have HR := hide h1; clear h1)
  go_ret2
  exact ⟨r, er, N', Q', rfl, HR.out⟩
set_option maxRecDepth 100000 in
theorem notD_ok {f : Int} (h : RA w x S M N Q) (hf : hasR N f) : Calls Try.prog 37 #[.pointer (some ⟨x, 0, none⟩), .int .i64 f] w fun e w' => OdL x S M N Q (fun p => sayR N p f != sayR N p 1) w e w' := by
  have H1 := hide (xorD_ok (g := 1) h hf ⟨by omega, by omega⟩)
  clear h hf
  go_enter Try.func37, Try.ntmps37
  go_wp2_with (go_at_call 42; refine H1.out.mono ?_; rintro e w1 ⟨r, er, N', Q', rfl, h1⟩; have HR := hide h1; clear h1)
  go_ret2
  exact ⟨r, er, N', Q', rfl, HR.out⟩
end
end Go.Proofs.Ytaafeflbanoncaa
/-
  The document's Set by its contract. No condition.
-/
namespace Go.Proofs.Ytaafeflbanoncaa
open Go.RowKit Go.Lib Go.Maps

section
variable {w : World} {x : Nat} {S : List Int} {M : Int} {N : List Nd} {Q : Nat → Prop} {l : Nat} {B : List Bool}
set_option maxRecDepth 100000 in
set_option maxHeartbeats 2000000 in
theorem setD_ok {ao : Option Addr} {cap : Nat} (h : RA w x S M N Q) (hl : l < S.length) (hB : (B.length : Int) = S.getD l 0) (hat : BAt w ao B) :
    Calls Try.prog 44 #[.pointer (some ⟨x, 0, none⟩), .int .i64 (l : Int), .slice ao B.length cap] w fun e w' => OdL x S M N Q (fun p => B.getD (p l) false) w e w' := by
  have HH := hide h
  have HAT := hide hat
  have hsz := h.ok.sz.each _ (getD_mem hl)
  have hB0 : 0 < B.length := by omega
  have hB1 : B.length ≤ 256 := by omega
  have MAY := hide (set_may (N := N) hl hB)
  have HB := hide hB
  have hmk := make_ints B.length (B.length : Int) rfl (by omega)
  obtain ⟨sb, sc, s0, _, s2, _⟩ := h.fields
  have s1 := s2.cell hl
  rw [← hB] at s1
  have hl0 : ¬ (l : Int) < 0 := by omega
  have hl1 : (l : Int) < (S.length : Int) := by omega
  have hl2 : ¬ (S.length : Int) ≤ (l : Int) := by omega
  have y2 : Below w.heap.size w (w.alloc (.cells (zC (List.replicate B.length 0)).toArray 3)) := al (Below.refl _ _) _
  have R2 : Hid (RwZ (w.alloc (.cells (zC (List.replicate B.length 0)).toArray 3)) w.heap.size (fill B 0)) := by unfold Hid; rw [fill_zero]; exact RwZ.made w _
  have X2 := hide y2
  have OB : Hid (∃ n, n = w.heap.size ∧ w.heap.size ≤ n) := ⟨_, rfl, Nat.le_refl _⟩
  clear h hat hsz hB s2 y2
  go_enter Try.func44, Try.ntmps44
  go_upto_region 4 with fail
  clear s0 s1 hl0 hl1 hl2
  generalize w.alloc (.cells (zC (List.replicate B.length 0)).toArray 3) = w2 at *
  obtain ⟨ob, e, hob⟩ := OB.out
  rw [← e] at R2
  rw [← e]
  have OB2 := hide hob
  clear hmk e hob OB
  go_wp2
  go_loopw [9] (fun x wr => ∃ k : Nat, k ≤ B.length ∧ x = .int .i64 k ∧ Hid (RwZ wr ob (fill B k) ∧ Below w.heap.size w wr)) (fun x _ => B.length - (RowKit.intOf x).toNat)
  case atStart => exact ⟨0, Nat.zero_le _, rfl, R2.out, X2.out⟩
  case round =>
    obtain ⟨k, hk, rfl, I⟩ := hrel
    by_cases hlt : k < B.length
    · have hlt' : (k : Int) < B.length := by omega
      obtain ⟨b1, o1, rfl, hb1, g1⟩ := (HAT.out.below I.out.2).get hlt
      have f8 := I.out.1.fro k
      have q8 := I.out.1.cell (k := k) (by rw [fill_length (by omega)]; exact hlt)
      rw [fill_at hlt] at q8
      cases hbb : B.getD k false with
      | true =>
        rw [hbb] at g1
        have NX : Hid (RwZ (wr.setCell ⟨ob, k, none⟩ (.int .i64 1)) ob (fill B (k + 1)) ∧ Below w.heap.size w (wr.setCell ⟨ob, k, none⟩ (.int .i64 1))) := by
          refine ⟨?_, bl I.out.2 OB2.out _ _⟩
          have := I.out.1.set k 1
          rw [← fill_set hlt, hbb]
          exact this
        clear hbb
        go_wp2
        go_roundw
        case rel => exact ⟨k + 1, by omega, by go_num, NX⟩
        case measure => simp [RowKit.intOf]; omega
      | false =>
        rw [hbb] at g1
        have NX : Hid (RwZ wr ob (fill B (k + 1)) ∧ Below w.heap.size w wr) := ⟨by rw [fill_skip hlt hbb]; exact I.out.1, I.out.2⟩
        clear hbb
        go_wp2
        go_roundw
        case rel => exact ⟨k + 1, by omega, by go_num, NX⟩
        case measure => simp [RowKit.intOf]; omega
    · have hlt' : ¬ (k : Int) < B.length := by omega
      obtain rfl : k = B.length := by omega
      have hR := I.out.1
      rw [fill_all] at hR
      have MK := (HH.out.below I.out.2).make (l : Int) (some ⟨ob, 0, none⟩) B.length (bitL B) (by rw [bitL_length]; omega) hR.zbk.at
      rw [bitL_length] at MK
      have HMK := hide MK
      clear hR MK
      go_wp2_with (go_at_call 22; refine HMK.out.mono ?_; rintro e w6 ⟨r6, er6, N6, rfl, mk6, P6, ra6, k6, p6, _⟩; have MK6 := hide mk6; have RA6 := hide ra6; have K6 := hide k6; have P6' := hide p6; clear mk6 ra6 k6 p6)
      go_ret2
      have hx : Kept Q w w6 := (Kept.of_below I.out.2).trans K6.out
      refine ⟨r6, er6, N6, P6, rfl, RA6.out, hx, fun b hb => (P6'.out b hb).imp id (Nat.le_trans I.out.2.size), (set_hang hl).all, ?_⟩
      have hin := set_ins HH.out.ok hl HB.out MK6.out
      have hor : er6 = 0 ∨ (er6 = 2 ∧ r6 = 0 ∧ N6 = N) := by
        rcases MK6.out with ⟨h1, _⟩ | ⟨_, _, _, h1, _⟩ | ⟨_, _, _, h1, _⟩ | ⟨_, _, _, _, h1, h2, h3⟩ | ⟨_, _, _, _, _, h1, _⟩
        · exact absurd MAY.out h1
        · exact .inl h1
        · exact .inl h1
        · exact .inr ⟨h2, h1, h3⟩
        · exact .inl h1
      rcases hor with h1 | h1
      · subst h1
        obtain ⟨a1, a2, a3⟩ := set_says HH.out.ok MK6.out
        exact .inl ⟨rfl, a2, ⟨a1, a3⟩, hin⟩
      · exact .inr ⟨h1.1, h1.2.1, h1.2.2, N6, by rw [hin, h1.1, h1.2.1]⟩
end
end Go.Proofs.Ytaafeflbanoncaa
