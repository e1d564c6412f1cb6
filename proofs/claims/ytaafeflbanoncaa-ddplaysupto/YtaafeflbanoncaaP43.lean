/-
  Nodes by its contract, in both arenas. Condition: lists no longer than a process can hold.
-/
import Derived.Test.YtaafeflbanoncaaP41
import Derived.Test.YtaafeflbanoncaaP42
namespace Go.Proofs.Ytaafeflbanoncaa
open Go.RowKit Go.Lib Go.Maps

/-- The document's walk in memory. -/
structure UW (w0 w : World) (mb : Nat) (s : MetO) (v : Value) : Prop where
  bel : Below w0.heap.size w0 w
  met : RwB w mb s.1
  own : w.ownsRow w0.heap.size 3 1 v s.2.length (zC s.2)
  bm : w0.heap.size ≤ mb
section
variable {w0 w w' : World} {mb n : Nat} {s : MetO} {v : Value}
theorem UW.below (h : UW w0 w mb s v) (y : Below w.heap.size w w') : UW w0 w' mb s v :=
  ⟨bt h.bel y (by have := h.bel.size; omega), (y.block _ (lt_of_block h.met)).trans h.met, own_below h.own y, h.bm⟩
def GW (mb : Nat) (v : Value) : Nat → Prop := fun k => k = mb ∨ v.ownBlock = some k
theorem UW.ne (h : UW w0 w mb s v) : ¬ v.ownBlock = some mb := fun e => by obtain ⟨cs, h1⟩ := own_ty h.own _ e; exact ty_ne h1 h.met (by decide) rfl
theorem UW.setMet (h : UW w0 w mb s v) (k : Nat) : UW w0 (w.setCell ⟨mb, k, none⟩ (.bool true)) mb (s.1.set k true, s.2) v ∧ Kept (fun b => b = mb) w (w.setCell ⟨mb, k, none⟩ (.bool true)) := by
  have kk : Kept (fun b => b = mb) w (w.setCell ⟨mb, k, none⟩ (.bool true)) := (Kept.refl (fun b => b = mb) w).setCell (p := ⟨mb, k, none⟩) rfl _
  exact ⟨⟨h.bel.setCell h.bm _, h.met.set k true, own_kept h.own kk (fun b h1 e => h.ne (e ▸ h1)), h.bm⟩, kk⟩
theorem UW.push {v2 : Value} {f : Int} (h : UW w0 w mb s v) (o1 : w'.ownsRow w0.heap.size 3 1 v2 (s.2.length + 1) (zC s.2 ++ [.int .i64 f])) (k1 : Kept (fun k => v.ownBlock = some k) w w') : UW w0 w' mb (s.1, s.2 ++ [f]) v2 := by
  have hb := h.bel.size
  refine ⟨h.bel.trans (k1.below (by omega) (fun k hk => (World.ownsRow.lt h.own k hk).1)), (k1.block _ (lt_of_block h.met) h.ne).trans h.met, ?_, h.bm⟩
  rw [List.length_append, zC_snoc]
  exact o1
def UhL (w0 : World) (mb : Nat) (s2 : MetO) (v : Value) (w : World) (e : Ending) (w' : World) : Prop :=
  ∃ v2, e = .returned v2 ∧ UW w0 w' mb s2 v2 ∧ Kept (GW mb v) w w' ∧ (∀ k, v2.ownBlock = some k → v.ownBlock = some k ∨ w.heap.size ≤ k)
end
section
variable {w0 : World} {mb x m : Nat} {S : List Int} {M : Int} {N : List Nd} {Q : Nat → Prop}
set_option maxRecDepth 100000 in
set_option maxHeartbeats 4000000 in
theorem walk_any (h0 : RA w0 x S M N Q) : ∀ (n : Nat) (w : World) (s : MetO) (v : Value) (f : Int) (j : Nat), UW w0 w mb s v → hasR N f → f.toNat ≤ n → MetOk (N.length + 2) j s →
    Calls Try.prog 70 #[.pointer (some ⟨x, 0, none⟩), .int .i64 f, .slice (some ⟨mb, 0, none⟩) (N.length + 2) (N.length + 2), v] w fun e w' => UhL w0 mb (thrF N n f s) v w e w' := by
  obtain ⟨i3, hi3, hz30, hz31, hz32⟩ := info_parts Try.info3
  have ok := h0.ok
  have hfew : N.length ≤ 8192 := by have := ok.few; have := ok.m1; omega
  intro n
  induction n with
  | zero =>
    intro w s v f j h hf hn _
    have hf0 : f = 0 := by have := hf.1; omega
    subst hf0
    obtain ⟨la, lc, hv, _⟩ := own_shape h.own
    subst hv
    have FIN : Hid (UhL w0 mb (thrF N 0 0 s) (.slice la s.2.length lc) w (.returned (.slice la s.2.length lc)) w) := ⟨_, rfl, h, Kept.refl _ _, fun _ h => .inl h⟩
    clear h
    go_enter Try.func70, Try.ntmps70
    go_wp2
    go_ret
    exact FIN.out
  | succ n ih =>
    intro w s v f j h hf hn hm
    obtain ⟨la, lc, hv, _⟩ := own_shape h.own
    subst hv
    obtain ⟨ms, hms⟩ : ∃ ms, s.2.length = ms := ⟨_, rfl⟩
    by_cases h2 : f < 2
    · have FIN : Hid (UhL w0 mb (thrF N (n + 1) f s) (.slice la ms lc) w (.returned (.slice la ms lc)) w) := by rw [← hms]; exact ⟨_, rfl, by unfold thrF; rw [if_pos (.inl h2)]; exact h, Kept.refl _ _, fun _ h => .inl h⟩
      rw [hms]
      clear h hm hf hn hms
      go_enter Try.func70, Try.ntmps70
      go_wp2
      go_ret
      exact FIN.out
    obtain ⟨fn, rfl⟩ : ∃ fn : Nat, f = (fn : Int) := ⟨f.toNat, by omega⟩
    have hfn : fn < N.length + 2 := by have := hf.2; omega
    have hfn' : (fn : Int) < (N.length : Int) + 2 := by omega
    have cm := h.met.cell (k := fn) (by rw [hm.len]; exact hfn)
    by_cases hmet : s.1.getD fn false = true
    · have FIN : Hid (UhL w0 mb (thrF N (n + 1) (fn : Int) s) (.slice la ms lc) w (.returned (.slice la ms lc)) w) := by rw [← hms]; exact ⟨_, rfl, by unfold thrF; rw [if_pos (.inr (by rw [Int.toNat_natCast]; exact hmet))]; exact h, Kept.refl _ _, fun _ h => .inl h⟩
      rw [hmet] at cm
      rw [hms]
      clear h hm hf hn hmet hms
      go_enter Try.func70, Try.ntmps70
      go_wp2
      go_ret
      exact FIN.out
    have hmf : s.1.getD fn false = false := Bool.eq_false_iff.2 hmet
    rw [hmf] at cm
    obtain ⟨l, ks, hnd⟩ := ok.ndAt (f := (fn : Int)) (by omega) hf.2
    have hkl : kidsL N (fn : Int) = ks := by unfold kidsL; rw [List.getD_eq_getElem?_getD, hnd.at_]; rfl
    have hks : ks.length ≤ 256 := by have h5 := hnd.len; have h6 := ok.sz.each _ (getD_mem hnd.lt); omega
    have STEP : Hid (thrF N (n + 1) (fn : Int) s = ((ks.foldl (fun s k => thrF N n k s) (s.1.set fn true, s.2)).1, (ks.foldl (fun s k => thrF N n k s) (s.1.set fn true, s.2)).2 ++ [(fn : Int)])) := by
      unfold Hid
      rw [thrF, if_neg (fun e => e.elim h2 (fun e => hmet (by rw [Int.toNat_natCast] at e; exact e))), hkl, Int.toNat_natCast]
    have KH : Hid (∀ i (hi : i < ks.length), hasR N ks[i] ∧ (ks[i]).toNat ≤ n) := fun i hi => by
      have := hnd.kid i hi
      rw [List.getD_eq_getElem?_getD, List.getElem?_eq_getElem hi] at this
      simp only [Option.getD_some] at this
      exact ⟨⟨this.1, by omega⟩, by omega⟩
    have S1 := hide (h.setMet fn)
    have MO1 := hide (hm.set hfn hmf)
    have fm := h.met.fro fn
    have LV : Hid (∀ W, Below w0.heap.size w0 W → Calls Try.prog 53 #[.pointer (some ⟨x, 0, none⟩), .int .i64 (fn : Int)] W fun e w' => e = .returned (.int .i64 (l : Int)) ∧ w' = W) := fun W y => by
      have := (h0.below y).level (fn : Int)
      rw [hnd.lev] at this
      exact this
    have KD : Hid (∀ W k, Below w0.heap.size w0 W → k < ks.length → Calls Try.prog 68 #[.pointer (some ⟨x, 0, none⟩), .int .i64 (fn : Int), .int .i64 (k : Int)] W fun e w' => e = .returned (.int .i64 (ks.getD k 0)) ∧ w' = W) := fun W k y hk => by
      have := kidD_any (h0.below y) hnd.at_ hk
      rw [show (((((fn : Int) - 2).toNat : Nat) : Int)) + 2 = (fn : Int) by omega] at this
      exact this
    obtain ⟨sb, sc, s0, _, s2, hxl⟩ := h0.fields
    have hlS : l < S.length := hnd.lt
    have hlS' : (l : Int) < (S.length : Int) := by omega
    have CEL : Hid (∀ W, Below w0.heap.size w0 W → W.cell? ⟨x, 0, none⟩ = some (.slice (some ⟨sb, 0, none⟩) S.length sc) ∧ W.cell? ⟨sb, l, none⟩ = some (.int .i64 (ks.length : Int))) := fun W y => by
      refine ⟨(y.cell (p := ⟨x, 0, none⟩) hxl).trans s0, ?_⟩
      rw [(s2.below y).cell hlS, ← hnd.len]
    have IH := hide ih
    have HOK := hide ok
    rw [hms]
    rw [hms] at S1
    have HMS := hide hms
    clear h hm hf hn hmet hmf hnd hkl ih h0 s0 s2 hxl hms
    go_enter Try.func70, Try.ntmps70
    go_upto_region 4 with fail
    clear cm fm
    have K1 := hide S1.out.2
    have T1 := hide S1.out.1
    generalize w.setCell ⟨mb, fn, none⟩ (.bool true) = w1 at *
    clear S1
    have K3 : Hid (Kept (GW mb (.slice la ms lc)) w w1) := K1.out.mono (fun _ h => .inl h)
    go_upto_block 0 with fail
    go_cut [3] (fun v wx => Hid (UW w0 wx mb (ks.foldl (fun s k => thrF N n k s) (s.1.set fn true, s.2)) v) ∧ Hid (Kept (GW mb (.slice la ms lc)) w wx) ∧ Hid (∀ k, v.ownBlock = some k → (Value.slice la ms lc).ownBlock = some k ∨ w.heap.size ≤ k) ∧ Hid (MetOk (N.length + 2) (j + 1) (ks.foldl (fun s k => thrF N n k s) (s.1.set fn true, s.2))))
    case first =>
      go_wp2
      go_loopw [3, 9] (fun v4 u wr => ∃ i : Nat, i ≤ ks.length ∧ u = .int .i64 i ∧ Hid (UW w0 wr mb ((ks.take i).foldl (fun s k => thrF N n k s) (s.1.set fn true, s.2)) v4) ∧ Hid (Kept (GW mb (.slice la ms lc)) w wr) ∧ Hid (∀ k, v4.ownBlock = some k → (Value.slice la ms lc).ownBlock = some k ∨ w.heap.size ≤ k) ∧ Hid (MetOk (N.length + 2) (j + 1) ((ks.take i).foldl (fun s k => thrF N n k s) (s.1.set fn true, s.2)))) (fun _ u _ => ks.length - (RowKit.intOf u).toNat)
      case atStart => exact ⟨0, Nat.zero_le _, rfl, T1, K3, hide (fun _ h => .inl h), MO1⟩
      case round =>
        obtain ⟨i, hi, rfl, T4, K4, V4, O4⟩ := hrel
        clear T1 K3 MO1
        have T5 : Hid (UW w0 wr.drew mb ((ks.take i).foldl (fun s k => thrF N n k s) (s.1.set fn true, s.2)) _) := T4.out.below (Below.refl _ _).drew
        have K5 : Hid (Kept (GW mb (.slice la ms lc)) w wr.drew) := K4.out.drew
        obtain ⟨q0, q1⟩ := CEL.out _ T5.out.bel
        have LV5 := hide (LV.out _ T5.out.bel)
        go_upto_region 5 with fail
        refine wp_unt (S := fun V => V = wr.drew) 10 (by kernel_rfl) ?_
        generalize wr.drew = w5 at *
        clear T4 K4
        refine UntH.take (i := 0) (some 22) rfl rfl (by kernel_rfl) (by kernel_rfl) (by kernel_rfl) (by kernel_rfl) (fun _ _ _ _ h => h) (by rfl) rfl ?_
        apply Exists.intro
        refine ⟨fun w' hw' => ?_, ?_⟩
        · subst hw'
          go_simp
          first | done | rfl
        try simp only [Act.put, List.setIfInBounds_toArray, List.set_cons_zero, List.set_cons_succ]
        refine UntH.take (i := 1) (some 23) rfl rfl (by kernel_rfl) (by kernel_rfl) (by kernel_rfl) (by kernel_rfl) (fun _ _ _ _ h => h) (by rfl) rfl ?_
        apply Exists.intro
        refine ⟨fun w' hw' => ?_, ?_⟩
        · subst hw'
          go_simp
          first | done | rfl
        try simp only [Act.put, List.setIfInBounds_toArray, List.set_cons_zero, List.set_cons_succ]
        refine UntH.take (i := 2) (some 24) rfl rfl (by kernel_rfl) (by kernel_rfl) (by kernel_rfl) (by kernel_rfl) (fun _ _ _ _ h => h) (by rfl) rfl ?_
        apply Exists.intro
        refine ⟨fun w' hw' => ?_, ?_⟩
        · subst hw'
          go_simp
          first | done | rfl
        try simp only [Act.put, List.setIfInBounds_toArray, List.set_cons_zero, List.set_cons_succ]
        refine UntH.take (i := 3) (some 25) rfl rfl (by kernel_rfl) (by kernel_rfl) (by kernel_rfl) (by kernel_rfl) (fun _ _ _ _ h => h) (by rfl) rfl ?_
        apply Exists.intro
        refine ⟨fun w' hw' => ?_, ?_⟩
        · subst hw'
          go_simp
          first | done | rfl
        try simp only [Act.put, List.setIfInBounds_toArray, List.set_cons_zero, List.set_cons_succ]
        refine UntH.take (i := 4) (some 26) rfl rfl (by kernel_rfl) (by kernel_rfl) (by kernel_rfl) (by kernel_rfl) (fun _ _ _ _ h => h) (by rfl) rfl ?_
        apply Exists.intro
        refine ⟨fun w' hw' => ?_, ?_⟩
        · subst hw'
          go_simp
          first | done | rfl
        try simp only [Act.put, List.setIfInBounds_toArray, List.set_cons_zero, List.set_cons_succ]
        refine UntH.take (i := 5) (some 27) rfl rfl (by kernel_rfl) (by kernel_rfl) (by kernel_rfl) (by kernel_rfl) (fun _ _ _ _ h => h) (by rfl) rfl ?_
        apply Exists.intro
        refine ⟨fun w' hw' => ?_, ?_⟩
        · subst hw'
          go_simp
          first | done | rfl
        try simp only [Act.put, List.setIfInBounds_toArray, List.set_cons_zero, List.set_cons_succ]
        refine UntH.take (i := 6) (some 28) rfl rfl (by kernel_rfl) (by kernel_rfl) (by kernel_rfl) (by kernel_rfl) (fun _ _ _ _ h => h) (by rfl) rfl ?_
        apply Exists.intro
        refine ⟨fun w' hw' => ?_, ?_⟩
        · subst hw'
          go_simp
          first | done | rfl
        try simp only [Act.put, List.setIfInBounds_toArray, List.set_cons_zero, List.set_cons_succ]
        refine UntH.step (i := 7) (by kernel_rfl) rfl (fun K hK => ?_)
        go_simp
        refine LV5.out.mono ?_
        rintro e w6 ⟨rfl, hw8⟩
        have hw9 := hw8.symm
        clear hw8
        subst hw9
        go_simp
        refine hK _ _ rfl ?_
        clear hK K LV5
        refine UntH.take (i := 8) (some 30) rfl rfl (by kernel_rfl) (by kernel_rfl) (by kernel_rfl) (by kernel_rfl) (fun _ _ _ _ h => h) (by rfl) rfl ?_
        apply Exists.intro
        refine ⟨fun w' hw' => ?_, ?_⟩
        · subst hw'
          go_simp
          first | done | rfl
        try simp only [Act.put, List.setIfInBounds_toArray, List.set_cons_zero, List.set_cons_succ]
        refine UntH.take (i := 9) (some 31) rfl rfl (by kernel_rfl) (by kernel_rfl) (by kernel_rfl) (by kernel_rfl) (fun _ _ _ _ h => h) (by rfl) rfl ?_
        apply Exists.intro
        refine ⟨fun w' hw' => ?_, ?_⟩
        · subst hw'
          go_simp
          first | done | rfl
        try simp only [Act.put, List.setIfInBounds_toArray, List.set_cons_zero, List.set_cons_succ]
        by_cases hlt : i < ks.length
        · have hlt' : (i : Int) < (ks.length : Int) := by omega
          refine UntH.last (by kernel_rfl) rfl (by kernel_rfl) (by kernel_rfl) (fun K hK => ?_)
          go_simp
          refine hK _ _ ?_
          clear hK K q0 q1
          obtain ⟨kv, hkv⟩ : ∃ kv, ks.getD i 0 = kv := ⟨_, rfl⟩
          have hke : ks[i] = kv := by rw [← hkv, List.getD_eq_getElem?_getD, List.getElem?_eq_getElem hlt]; rfl
          obtain ⟨hkh, hkn⟩ := KH.out i hlt
          rw [hke] at hkh hkn
          have HKD := hide (KD.out _ i T5.out.bel hlt)
          rw [hkv] at HKD
          have HC := hide (IH.out w5 _ _ kv (j + 1) T5.out hkh hkn O4.out)
          have O5 := hide (thr_ok HOK.out n kv (j + 1) _ hkh O4.out)
          have EQ : Hid ((ks.take (i + 1)).foldl (fun s k => thrF N n k s) (s.1.set fn true, s.2) = thrF N n kv ((ks.take i).foldl (fun s k => thrF N n k s) (s.1.set fn true, s.2))) := by
            unfold Hid
            rw [List.take_succ_eq_append_getElem hlt, List.foldl_append, hke]
            rfl
          rw [← EQ.out] at HC O5
          clear hkv hke hkh hkn EQ
          obtain ⟨la4, lc4, hv4, _⟩ := own_shape T5.out.own
          subst hv4
          go_wp2_with (first
            | (go_at_call 68; refine HKD.out.mono ?_; rintro e w6 ⟨rfl, hw8⟩; have hw9 := hw8.symm; clear hw8; subst hw9)
            | (go_at_call 70; refine HC.out.mono ?_; rintro e w6 ⟨v6, rfl, t6, k6, h6⟩; obtain ⟨la6, lc6, hv6, _⟩ := own_shape t6.own; subst hv6; have T6 := hide t6; have K6 : Hid (Kept (GW mb (.slice la ms lc)) w w6) := K5.out.trans_new k6 (fun b hb hF => hF.elim .inl (fun e => (V4.out b e).elim .inr (fun e => by omega))); have V6 : Hid (∀ k, (Value.slice la6 _ lc6).ownBlock = some k → (Value.slice la ms lc).ownBlock = some k ∨ w.heap.size ≤ k) := (fun k hk => (h6 k hk).elim (V4.out k) (fun e => .inr (Nat.le_trans K5.out.size e))); clear t6 k6 h6))
          go_roundw
          case rel => exact ⟨i + 1, by omega, by go_num, T6, K6, V6, O5⟩
          case measure => simp [RowKit.intOf]; omega
        · have hlt' : ¬ (i : Int) < (ks.length : Int) := by omega
          obtain rfl : i = ks.length := by omega
          refine UntH.last (by kernel_rfl) rfl (by kernel_rfl) (by kernel_rfl) (fun K hK => ?_)
          go_simp
          refine hK _ _ ?_
          clear hK K q0 q1
          rw [List.take_length] at T5 O4
          go_wp2
          go_meet
          exact ⟨T5, K5, V4, O4⟩
    obtain ⟨T4, K4, V4, O4⟩ := hcut
    obtain ⟨w6, hw6⟩ : ∃ w6, w6 = wc := ⟨_, rfl⟩
    subst hw6
    clear T1 K3 MO1 KH CEL LV KD
    generalize ks.foldl (fun s k => thrF N n k s) (s.1.set fn true, s.2) = s4 at *
    obtain ⟨la4, lc4, hv4, _⟩ := own_shape T4.out.own
    subst hv4
    have hle : s4.2.length ≤ 8194 := by have h5 := O4.out.cnt; have h6 := O4.out.len; have h7 := count_le s4.1; omega
    obtain ⟨mm, hmm⟩ : ∃ mm, s4.2.length = mm := ⟨_, rfl⟩
    have y7 : Below w6.heap.size w6 (w6.alloc (.cells #[.int .i64 (fn : Int)] 3)) := al (Below.refl _ _) _
    have Y7 := hide y7
    have T7 := hide (T4.out.below y7)
    have OW : Hid ((w6.alloc (.cells #[.int .i64 (fn : Int)] 3)).ownsRow w0.heap.size 3 1 (.slice la4 mm lc4) mm (zC s4.2)) := by rw [← hmm]; exact T7.out.own
    have SZ : Hid (w0.heap.size ≤ (w6.alloc (.cells #[.int .i64 (fn : Int)] 3)).heap.size) := Nat.le_trans T4.out.bel.size y7.size
    rw [hmm] at hle
    have HM := hide hmm
    clear y7
    have PU : Hid (∀ v5 (w8 : World), w8.ownsRow w0.heap.size 3 1 v5 (mm + 1) (zC s4.2 ++ [.int .i64 (fn : Int)]) → AppAt (w6.alloc (.cells #[.int .i64 (fn : Int)] 3)) w8 (.slice la4 mm lc4) v5 → UhL w0 mb (thrF N (n + 1) (fn : Int) s) (.slice la ms lc) w (.returned v5) w8) := fun v5 w8 h1 h3 => by
      rw [← HM.out] at h1 h3
      have ka := appK h3
      have na : ∀ k, v5.ownBlock = some k → (Value.slice la4 s4.2.length lc4).ownBlock = some k ∨ (w6.alloc (.cells #[.int .i64 (fn : Int)] 3)).heap.size ≤ k := fun k hk => by
        rcases h3 with ⟨g, p1, p2, _⟩ | ⟨_, p2⟩
        · rw [p2] at hk; exact .inl (p1.trans hk)
        · exact .inr (p2 k hk)
      refine ⟨v5, rfl, by rw [STEP.out]; exact T7.out.push h1 ka, (K4.out.trans (Kept.of_below Y7.out)).trans_new ka (fun b hb e => (V4.out b e).elim .inr (fun e => by omega)), fun k hk => (na k hk).elim (V4.out k) (fun e => .inr ?_)⟩
      have h5 := K4.out.size
      have h6 := Y7.out.size
      omega
    rw [hmm]
    clear T4 K4 V4 O4 T7 STEP hmm
    go_wp2_with (at_builtin; refine wpList_append_view rfl (.tmp 43) (.tmp 45) 22 rfl w0.heap.size 3 i3 (.int .i64 0) 1 8 Try.underlying22 hi3 hz30 hz31 hz32 rfl (by decide) _ mm (zC s4.2) rfl OW.out ⟨w6.heap.size, 0, none⟩ 1 1 [.int .i64 (fn : Int)] rfl rfl (one_new w6 _ _) (by simp [Value.oneCell']) (by decide) (by unfold maxLen; omega) (by omega) SZ.out ?_; intro v5 w8 h1 h3; obtain ⟨a5, c5, hv5, _⟩ := own_shape h1; subst hv5; have FIN := hide (PU.out _ w8 h1 h3); clear h1 h3)
    go_ret
    exact FIN.out
end
end Go.Proofs.Ytaafeflbanoncaa
