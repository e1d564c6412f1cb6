/-
  kidsOf, kidsAt by their contracts. No condition.
-/
import Derived.Test.YtaafeflbanoncaaP13
import Derived.Test.YtaafeflbanoncaaP11
import Derived.Deep.OwnRows
namespace Go.Proofs.Ytaafeflbanoncaa
open Go.RowKit Go.Lib Go.Maps

section
variable {w : World} {c : Cf} {N : List Nd} {P G : Nat → Prop}
theorem lit_nat {i j : Nat} (e : Lit.int .i64 ((i : Int) + 2) = Lit.int .i64 ((j : Int) + 2)) : j = i := by
  have := (Lit.int.inj e).2
  omega
/-- What kidsOf leaves. -/
def KdL (c : Cf) (N : List Nd) (P G : Nat → Prop) (ks : List Int) (w : World) (e : Ending) (w' : World) : Prop :=
  ∃ g cp G', e = .returned (.slice (some ⟨g, 0, none⟩) ks.length cp) ∧ MS w' c N P G' ∧ Gw w G G' ∧ ZBk w' g ks ∧ ¬ P g ∧ G' g ∧ Kept (fun k => k = c.kb) w w'
set_option maxRecDepth 100000 in
set_option maxHeartbeats 2000000 in
theorem kidsOf_any {i : Nat} {lv : Int} {ks : List Int} (h : MS w c N P G) (hi : N[i]? = some (lv, ks)) :
    Calls Try.prog 63 #[.pointer (some ⟨c.mm, 0, none⟩), .int .i64 ((i : Int) + 2)] w fun e w' => KdL c N P G ks w e w' := by
  obtain ⟨c0, c1, c2, c3⟩ := h.cells
  have HH := hide h
  obtain ⟨D, hown, hall⟩ := h.kid
  have HOWN := hide hown
  have HALL := hide hall
  have hlt := at_lt hi
  have hfew := h.ca.ok.few
  have hm1 := h.ca.ok.m1
  have HI := hide hi
  have HK := hide (keyI_is (f := (i : Int) + 2) (by omega) (by omega))
  have HN := hide (h.ca.node ((i : Int) + 2))
  have hz0 : ∀ W, (zeroValue 22).run Try.prog W = .ok (.slice none 0 0) W := fun W => Try.zeroValue22 W
  have hall0 := hall
  clear h hown hall hi
  cases hhas : Maps.has D (.int .i64 ((i : Int) + 2))
  · clear hall0
    go_enter Try.func63, Try.ntmps63
    go_upto_region 5 with (first
      | (at_lookup; refine wpList_lookup_own_ok _ rfl (.tmp 13) (.tmp 14) 106 rfl 3 22 keyed3 Try.underlying106 slRd (hz0 _) .nil [] slRd_nil c.kb 8192 D rfl HOWN.out _ _ rfl HK.out ?_; intro v ps hv; rw [hhas]; clear hv)
      | (go_at_call 21; refine HN.out.mono ?_; rintro e w1 ⟨⟨i', lv', ks', g, cp, hi', hf, rfl, o1, z1, l1⟩ | ⟨hno, rfl⟩, x1⟩; rotate_left; (exfalso; exact hno (by have := hlt; omega)); have hii : i' = i := (by omega); subst hii; have hks := hi'.symm.trans HI.out; have hlk : lv' = lv ∧ ks' = ks := (by injection hks with hks; injection hks with h1 h2; exact ⟨h1, h2⟩); obtain ⟨h1, h2⟩ := hlk; subst h1 h2; clear hks hi' hf o1; have Z1 := hide z1; have L1 := hide l1; have X1 := hide x1; clear z1 l1 x1))
    have y2 : Below w1.heap.size w1 (w1.alloc (.cells #[.int .i64 lv', .slice (some ⟨g, 0, none⟩) ks'.length cp] 58)) := al (Below.refl _ _) _
    have y3 := bt y2 (Below.refl _ (w1.alloc (.cells #[.int .i64 lv', .slice (some ⟨g, 0, none⟩) ks'.length cp] 58))).drew (Nat.le_refl _)
    have X3 := hide (bt X1.out y3 (Nat.le_refl _))
    have H3 := hide (HH.out.below X3.out)
    have Z3 := hide (Z1.out.below y3)
    have nb : (w1.alloc (.cells #[.int .i64 lv', .slice (some ⟨g, 0, none⟩) ks'.length cp] 58)).drew.heap[w1.heap.size]? = some (.cells #[.int .i64 lv', .slice (some ⟨g, 0, none⟩) ks'.length cp] 58 (0, 0)) := heap_alloc_new w1 _
    refine wp_unt (S := fun V => V = (w1.alloc (.cells #[.int .i64 lv', .slice (some ⟨g, 0, none⟩) ks'.length cp] 58)).drew) 7 (by kernel_rfl) ?_
    generalize (w1.alloc (.cells #[.int .i64 lv', .slice (some ⟨g, 0, none⟩) ks'.length cp] 58)).drew = wd at *
    have p0 := cell_of_row wd w1.heap.size 1 _ _ _ nb
    simp at p0
    generalize w1.heap.size = nb1 at *
    have q3 := H3.out.cells.2.2.2
    have HOW3 : Hid (wd.ownsMap Try.prog 3 slRd c.kb 8192 D) := by
      obtain ⟨es, cl, h1, h2⟩ := HOWN.out
      exact ⟨es, cl, (X3.out.block _ HOWN.out.lt).trans h1, h2⟩
    obtain ⟨w4, hrun, r1, r2⟩ := HOW3.out.store keyed3 Try.underlying106 (by unfold maxLen; omega) HK.out (slRd_mk g ks'.length cp)
    have R1 := hide r1
    have R2 := hide r2
    clear r1 r2 y2 y3
    refine UntH.take (i := 0) (some 29) rfl rfl (by kernel_rfl) (by kernel_rfl) (by kernel_rfl) (by kernel_rfl) (fun _ _ _ _ h => h) (by rfl) rfl ?_
    apply Exists.intro
    refine ⟨fun w' hw' => ?_, ?_⟩
    · subst hw'
      go_simp
      first | done | rfl
    try simp only [Act.put, List.setIfInBounds_toArray, List.set_cons_zero, List.set_cons_succ]
    refine UntH.take (i := 1) (some 30) rfl rfl (by kernel_rfl) (by kernel_rfl) (by kernel_rfl) (by kernel_rfl) (fun _ _ _ _ h => h) (by rfl) rfl ?_
    apply Exists.intro
    refine ⟨fun w' hw' => ?_, ?_⟩
    · subst hw'
      go_simp
      first | done | rfl
    try simp only [Act.put, List.setIfInBounds_toArray, List.set_cons_zero, List.set_cons_succ]
    refine UntH.take (i := 2) (some 31) rfl rfl (by kernel_rfl) (by kernel_rfl) (by kernel_rfl) (by kernel_rfl) (fun _ _ _ _ h => h) (by rfl) rfl ?_
    apply Exists.intro
    refine ⟨fun w' hw' => ?_, ?_⟩
    · subst hw'
      go_simp
      first | done | rfl
    try simp only [Act.put, List.setIfInBounds_toArray, List.set_cons_zero, List.set_cons_succ]
    refine UntH.take (i := 3) (some 32) rfl rfl (by kernel_rfl) (by kernel_rfl) (by kernel_rfl) (by kernel_rfl) (fun _ _ _ _ h => h) (by rfl) rfl ?_
    apply Exists.intro
    refine ⟨fun w' hw' => ?_, ?_⟩
    · subst hw'
      go_simp
      first | done | rfl
    try simp only [Act.put, List.setIfInBounds_toArray, List.set_cons_zero, List.set_cons_succ]
    refine UntH.take (i := 4) (some 33) rfl rfl (by kernel_rfl) (by kernel_rfl) (by kernel_rfl) (by kernel_rfl) (fun _ _ _ _ h => h) (by rfl) rfl ?_
    apply Exists.intro
    refine ⟨fun w' hw' => ?_, ?_⟩
    · subst hw'
      go_simp
      first | done | rfl
    try simp only [Act.put, List.setIfInBounds_toArray, List.set_cons_zero, List.set_cons_succ]
    refine UntH.take (i := 5) (some 34) rfl rfl (by kernel_rfl) (by kernel_rfl) (by kernel_rfl) (by kernel_rfl) (fun _ _ _ _ h => h) (by rfl) rfl ?_
    apply Exists.intro
    refine ⟨fun w' hw' => ?_, ?_⟩
    · subst hw'
      go_simp
      first | done | rfl
    try simp only [Act.put, List.setIfInBounds_toArray, List.set_cons_zero, List.set_cons_succ]
    refine UntH.take (i := 6) (some 35) rfl rfl (by kernel_rfl) (by kernel_rfl) (by kernel_rfl) (by kernel_rfl) (fun _ _ _ _ h => h) (by rfl) rfl ?_
    apply Exists.intro
    refine ⟨fun w' hw' => ?_, ?_⟩
    · subst hw'
      go_simp
      first | done | rfl
    try simp only [Act.put, List.setIfInBounds_toArray, List.set_cons_zero, List.set_cons_succ]
    refine UntH.last (by kernel_rfl) rfl (by kernel_rfl) (by kernel_rfl) (fun K hK => ?_)
    go_simp
    have k4 := mapTurned_kept R2.out
    have p4 : w4.cell? ⟨nb1, 1, none⟩ = some (.slice (some ⟨g, 0, none⟩) ks'.length cp) := (k4.cell (p := ⟨nb1, 1, none⟩) (lt_of_block nb) (fun e => by
      obtain ⟨es, cl, h1⟩ := H3.out.kid.blk
      have e' : nb1 = c.kb := e
      rw [← e', nb] at h1
      cases h1)).trans p0
    have K4 := hide k4
    refine hK _ _ ?_
    clear hK K p0 k4 hrun nb
    go_wp2
    go_ret
    have hnp : ¬ P g := fun hp => by
      have h1 := HH.out.ca.plt hp
      have h2 := L1.out
      omega
    have hk4 : Kept (fun k => k = c.kb) w w4 := (Kept.of_below X3.out).trans_new K4.out (fun k _ e => e)
    refine ⟨g, cp, fun k => G k ∨ k = g, rfl, (H3.out.more (fun k h => .inl h) (fun k h => h.elim (H3.out.gl k) (fun e => e ▸ Z3.out.lt))).putK (fun kl hkl => ?_) HOW3.out.isMap HI.out Z3.out hnp (.inr rfl) R1.out R2.out, fun k hk => hk.elim .inl (fun e => .inr (e ▸ L1.out)), ?_, hnp, .inr rfl, hk4⟩
    · obtain ⟨i, lv, ks, g, cp, e, a, b, d, y⟩ := HALL.out kl hkl
      exact ⟨i, lv, ks, g, cp, e, a, b, d.below X3.out, y.1, .inl y.2⟩
    · obtain ⟨es, cl, h1⟩ := H3.out.kid.blk
      exact Z3.out.kept K4.out (Z3.out.not_map h1)
  · obtain ⟨i', lv', ks', g, cp, e, a, b, d, y⟩ := hall0 _ hhas
    have hii : i' = i := lit_nat e
    subst hii
    have hks := a.symm.trans HI.out
    have hlk : lv' = lv ∧ ks' = ks := by
      injection hks with hks
      injection hks with h1 h2
      exact ⟨h1, h2⟩
    obtain ⟨h1, h2⟩ := hlk
    subst h1 h2
    have B := hide b
    have DD := hide d
    have Y := hide y
    clear hks a b d y e hall0
    go_enter Try.func63, Try.ntmps63
    go_wp2_with (at_lookup; refine wpList_lookup_own_ok _ rfl (.tmp 13) (.tmp 14) 106 rfl 3 22 keyed3 Try.underlying106 slRd (hz0 _) .nil [] slRd_nil c.kb 8192 D rfl HOWN.out _ _ rfl HK.out ?_; intro v ps hv; rw [hhas]; rw [B.out] at hv; have hv2 := slRd_inv hv; subst hv2; clear hv)
    go_ret
    exact ⟨g, cp, G, rfl, HH.out, Gw.refl _ _, DD.out, Y.out.1, Y.out.2, Kept.refl _ _⟩
/-- Kids that were handed on, as they lie while others are put together. -/
def KvA (c : Cf) (N : List Nd) (P : Nat → Prop) (l : Nat) (f : Int) (v : Value) (w : World) : Prop :=
  (lvl c.S N f ≠ (l : Int) ∧ v = .slice none 0 0) ∨ (lvl c.S N f = (l : Int) ∧ ∃ g cp ks, v = .slice (some ⟨g, 0, none⟩) ks.length cp ∧ NdAt c.S N f l ks ∧ ZBk w g ks ∧ ¬ P g)
theorem KvA.kept {l : Nat} {f : Int} {v : Value} {w' : World} {F : Nat → Prop} (h : KvA c N P l f v w) (k : Kept F w w') (hF : ∀ b L, ZBk w b L → ¬ P b → ¬ F b) : KvA c N P l f v w' := by
  rcases h with h | ⟨h1, g, cp, ks, h2, h3, h4, h5⟩
  · exact .inl h
  · exact .inr ⟨h1, g, cp, ks, h2, h3, h4.kept k (hF g ks h4 h5), h5⟩
/-- A ref's kids, where it asks the level; none, where it does not. -/
def KaL (c : Cf) (N : List Nd) (P G : Nat → Prop) (l : Nat) (f : Int) (w : World) (e : Ending) (w' : World) : Prop :=
  ∃ v G', e = .returned v ∧ KvA c N P l f v w' ∧ MS w' c N P G' ∧ Gw w G G' ∧ Kept (fun k => k = c.kb) w w'
set_option maxRecDepth 100000 in
set_option maxHeartbeats 2000000 in
theorem kidsAt_any {l : Nat} {f : Int} (h : MS w c N P G) (hf : hasR N f) (hl : l < c.S.length) :
    Calls Try.prog 85 #[.pointer (some ⟨c.mm, 0, none⟩), .int .i64 f, .int .i64 (l : Int)] w fun e w' => KaL c N P G l f w e w' := by
  obtain ⟨c0, c1, c2, c3⟩ := h.cells
  have HH := hide h
  have HL := hide (h.ca.level f)
  by_cases e : lvl c.S N f = (l : Int)
  · obtain ⟨h2, ks, hn⟩ := h.ca.ok.node_of_lvl hf e hl
    have hat := hn.at_
    obtain ⟨i, hi⟩ : ∃ i : Nat, f = (i : Int) + 2 := ⟨(f - 2).toNat, by omega⟩
    subst hi
    rw [show ((i : Int) + 2 - 2).toNat = i by omega] at hat
    have HK := hide (kidsOf_any h hat)
    have HE := hide e
    have HN := hide hn
    rw [e] at HL
    clear h hf hn hat e h2
    go_enter Try.func85, Try.ntmps85
    go_wp2_with (first
      | (go_at_call 62; refine HL.out.mono ?_; rintro e w1 ⟨rfl, hw1⟩; have hw2 := hw1.symm; clear hw1; subst hw2)
      | (go_at_call 63; refine HK.out.mono ?_; rintro e w1 ⟨g, cp, G1, rfl, a1, a5, a2, a3, a6, a4⟩; have A1 := hide a1; have A2 := hide a2; have A3 := hide a3; have A4 := hide a4; have A5 := hide a5; clear a1 a2 a3 a4 a5 a6))
    go_ret
    exact ⟨_, G1, rfl, .inr ⟨HE.out, g, cp, ks, rfl, HN.out, A2.out, A3.out⟩, A1.out, A5.out, A4.out⟩
  · have HE := hide e
    have e' : (lvl c.S N f != (l : Int)) = true := by simpa using e
    clear h hf e
    generalize hx : lvl c.S N f = x at *
    have HX := hide hx
    clear hx
    go_enter Try.func85, Try.ntmps85
    go_wp2_with (go_at_call 62; refine HL.out.mono ?_; rintro e w1 ⟨rfl, hw1⟩; have hw2 := hw1.symm; clear hw1; subst hw2)
    go_ret
    exact ⟨_, G, rfl, .inl ⟨by rw [HX.out]; exact HE.out, rfl⟩, HH.out, Gw.refl _ _, Kept.refl _ _⟩
end
end Go.Proofs.Ytaafeflbanoncaa
/-
  Rows of numbers and of bools that were made whole: made, written into. Of the program its types alone: no condition.
-/
namespace Go.Proofs.Ytaafeflbanoncaa
open Go.RowKit Go.Lib Go.Maps

/-- A block that is just these numbers. -/
def RwZ (w : World) (b : Nat) (L : List Int) : Prop := w.heap[b]? = some (.cells (zC L).toArray 3 (0, 0))
theorem RwZ.lt {w : World} {b : Nat} {L : List Int} (h : RwZ w b L) : b < w.heap.size := lt_of_block h
theorem RwZ.zbk {w : World} {b : Nat} {L : List Int} (h : RwZ w b L) : ZBk w b L := ⟨_, h, fun i hi => by rw [List.getElem?_toArray, zC_get L hi]⟩
theorem RwZ.kept {F : Nat → Prop} {w w' : World} {b : Nat} {L : List Int} (h : RwZ w b L) (hk : Kept F w w') (hF : ¬ F b) : RwZ w' b L := (hk.block b h.lt hF).trans h
theorem RwZ.below {w w' : World} {b : Nat} {L : List Int} (h : RwZ w b L) (hk : Below w.heap.size w w') : RwZ w' b L := (hk.block b h.lt).trans h
theorem RwZ.set {w : World} {b : Nat} {L : List Int} (h : RwZ w b L) (k : Nat) (x : Int) : RwZ (w.setCell ⟨b, k, none⟩ (.int .i64 x)) b (L.set k x) := by
  unfold RwZ
  rw [block_setCell h k]
  congr 2
  apply Array.ext'
  simp [zC, List.map_set]
theorem RwZ.cell {w : World} {b : Nat} {L : List Int} (h : RwZ w b L) {k : Nat} (hk : k < L.length) : w.cell? ⟨b, k, none⟩ = some (.int .i64 (L.getD k 0)) := h.zbk.cell hk
theorem RwZ.fro {w : World} {b : Nat} {L : List Int} (h : RwZ w b L) (k : Nat) : w.frozen? ⟨b, k, none⟩ = false := frozen_of_row w b k _ _ h
theorem made_cells (z : Value) (n : Nat) : madeCells #[z] n = (List.replicate n z).toArray := by
  unfold madeCells
  apply Array.ext
  · simp
  · intro i h1 h2
    simp [Nat.mod_one]
theorem make_ints (n : Nat) (L : Int) (hL : L = (n : Int)) (hn : n ≤ 16777217) (V : World) : (Instr.makeSlice 22 (.int .i64 L) (.int .i64 L)).run Try.prog V = .ok (.slice (some ⟨V.heap.size, 0, none⟩) n n) (V.alloc (.cells (zC (List.replicate n 0)).toArray 3)) := by
  subst hL
  have := run_make_row' (P := Try.prog) 22 3 (.int .i64 0) 8 Try.underlying22 Try.info3 rfl .i64 .i64 n (by omega) (by omega) V
  rw [made_cells] at this
  rw [this]
  simp [zC]
theorem RwZ.made (V : World) (L : List Int) : RwZ (V.alloc (.cells (zC L).toArray 3)) V.heap.size L := heap_alloc_new V _
/-- A row of bools. -/
def bC (L : List Bool) : List Value := L.map Value.bool
theorem bC_length (L : List Bool) : (bC L).length = L.length := by simp [bC]
theorem bC_get (L : List Bool) {i : Nat} (h : i < L.length) : (bC L)[i]? = some (.bool (L.getD i false)) := by simp [bC, h, List.getD_eq_getElem?_getD]
theorem bC_snoc (L : List Bool) (x : Bool) : bC (L ++ [x]) = bC L ++ [.bool x] := by simp [bC]
theorem Try.info4 : (Try.prog.info? 4).map (fun i => (i.zero, i.size, i.bytes)) = some (some (.bool false), 1, 1) := by kernel_rfl
theorem make_bools (n : Nat) (L : Int) (hL : L = (n : Int)) (hn : n ≤ 16777217) (V : World) : (Instr.makeSlice 36 (.int .i64 L) (.int .i64 L)).run Try.prog V = .ok (.slice (some ⟨V.heap.size, 0, none⟩) n n) (V.alloc (.cells (bC (List.replicate n false)).toArray 4)) := by
  subst hL
  have := run_make_row' (P := Try.prog) 36 4 (.bool false) 1 Try.underlying36 Try.info4 rfl .i64 .i64 n (by omega) (by omega) V
  rw [made_cells] at this
  rw [this]
  simp [bC]
end Go.Proofs.Ytaafeflbanoncaa
