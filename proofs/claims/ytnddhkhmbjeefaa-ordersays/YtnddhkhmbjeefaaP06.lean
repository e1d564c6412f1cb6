/-
  The program's Node by its contract. No condition.
-/
import Derived.Test.YtnddhkhmbjeefaaP05
import Derived.Test.YtnddhkhmbjeefaaP04
namespace Go.Proofs.Ytnddhkhmbjeefaa
open Go.RowKit Go.Lib Go.Maps

/-- What Node tells. -/
def NdL (N : List Nd) (f : Int) (w : World) (e : Ending) (w' : World) : Prop :=
  ((∃ (i : Nat) (lv : Int) (ks : List Int) (g c : Nat), N[i]? = some (lv, ks) ∧ f = (i : Int) + 2 ∧ e = .returned (.tuple #[.agg #[.int .i64 lv, .slice (some ⟨g, 0, none⟩) ks.length c], .int .i64 0]) ∧ w'.ownsRow w.heap.size 3 1 (.slice (some ⟨g, 0, none⟩) ks.length c) ks.length (zC ks) ∧ ZBk w' g ks ∧ w.heap.size ≤ g) ∨
   (¬ (2 ≤ f ∧ f < (N.length : Int) + 2) ∧ e = .returned (.tuple #[.agg #[.int .i64 0, .slice none 0 0], .int .i64 1]))) ∧ Below w.heap.size w w'
theorem bl {N : Nat} {a w : World} (h : Below N a w) {b : Nat} (hb : N ≤ b) (j : Nat) (u : Value) : Below N a (w.setCell ⟨b, j, none⟩ u) := h.setCell (by simpa using hb) _
section
variable {w : World} {a : Nat} {S : List Int} {M : Int} {R : List ND} {N : List Nd} {m : Nat} {P : Nat → Prop} {sb sc mb : Nat} {nv : Value}
set_option maxRecDepth 100000 in
set_option maxHeartbeats 4000000 in
theorem nodeC_any (f : Int) (h : CAx w a S M R m P sb sc nv mb) : Calls Try.prog 45 #[.pointer (some ⟨a, 0, none⟩), .int .i64 f] w fun e w' => NdL (R.map ND.nd) f w e w' := by
  have y0 : Below w.heap.size w (w.alloc (.cells #[.int .i64 0, .slice none 0 0] 86)) := al (Below.refl _ _) _
  have h0 := h.below y0
  have HN := isNode_any f h0
  have b0 := heap_alloc_new w (.cells #[.int .i64 0, .slice none 0 0] 86)
  by_cases hc : 2 ≤ f ∧ f < (R.length : Int) + 2
  · obtain ⟨i, hi, rfl, -⟩ := lvl_node (S := S) hc.1 hc.2
    rw [isN_true hc.1 hc.2] at HN
    have HN' := hide HN
    obtain ⟨c0, c1, c2, c3⟩ := h0.cells
    have hfw := h.few
    obtain ⟨ao, cap, hv, hp⟩ := h.shape
    obtain ⟨g, rfl⟩ := hp (by omega)
    subst hv
    obtain ⟨d0, d1⟩ := h0.node rfl hi
    have e1 : IntKind.i64.wrap ((i : Int) + 2 - 2) = (i : Int) := by simp [IntKind.wrap, IntKind.bits, IntKind.signed]; omega
    have hi' : (i : Int) < (R.length : Int) := by omega
    have HND : Hid ((R.map ND.nd)[i]? = some ((R[i]).lv, (R[i]).ks)) := by unfold Hid; rw [List.getElem?_eq_getElem (by simpa using hi), List.getElem_map]; rfl
    have hmi := h.ok.may (i := i) (by rw [List.length_map]; exact hi)
    rw [List.getElem_map] at hmi
    obtain ⟨-, -, hk1, hk2⟩ := hmi.rng h.ok (by rw [List.length_map]; exact hfw)
    have hkz := h0.kid (R[i]) (List.getElem_mem hi)
    simp only [ND.nd] at hk1 hk2
    clear h hp HN h0 hc hmi
    generalize (R[i]).lv = lv at *
    generalize (R[i]).ks = ks at *
    generalize (R[i]).kb = kb at *
    generalize (R[i]).kc = kc at *
    have HB0 := hide b0
    have HY0 := hide y0
    have HKZ := hide hkz
    have HI := hide hi
    have E0 : Hid ((w.alloc (.cells #[.int .i64 0, .slice none 0 0] 86)).heap.size = w.heap.size + 1) := by unfold Hid; simp
    clear b0 y0 hkz hi
    go_enter Try.func45, Try.ntmps45
    go_upto_region 4 with (go_at_call 50; refine HN'.out.mono ?_; rintro e w1 ⟨rfl, hw1⟩; subst hw1)
    have y1 : Below (w.alloc (.cells #[.int .i64 0, .slice none 0 0] 86)).heap.size (w.alloc (.cells #[.int .i64 0, .slice none 0 0] 86)) ((w.alloc (.cells #[.int .i64 0, .slice none 0 0] 86)).alloc (.cells #[.int .i64 lv, .slice (some ⟨kb, 0, none⟩) ks.length kc] 86)) := al (Below.refl _ _) _
    have B1 := hide (heap_alloc_new (w.alloc (.cells #[.int .i64 0, .slice none 0 0] 86)) (.cells #[.int .i64 lv, .slice (some ⟨kb, 0, none⟩) ks.length kc] 86))
    rw [E0.out] at B1
    have B0 := hide ((y1.block w.heap.size (lt_of_block HB0.out)).trans HB0.out)
    have Z1 := hide (HKZ.out.below y1)
    have Y1 := hide (bt HY0.out y1 (Nat.le_refl _))
    clear y1 c0 c1 c2 c3 d0 d1 HB0 HKZ HY0 HN' E0
    generalize (w.alloc (.cells #[.int .i64 0, .slice none 0 0] 86)).alloc (.cells #[.int .i64 lv, .slice (some ⟨kb, 0, none⟩) ks.length kc] 86) = W at *
    have yd : Below W.heap.size W W.drew := (Below.refl _ _).drew
    have B0d := hide ((yd.block _ (lt_of_block B0.out)).trans B0.out)
    have B1d := hide ((yd.block _ (lt_of_block B1.out)).trans B1.out)
    have Zd := hide (Z1.out.below yd)
    have Yd := hide (bt Y1.out yd (Nat.le_refl _))
    have HS0 : Hid (W.drew.cell? ⟨w.heap.size + 1, 0, none⟩ = some (.int .i64 lv) ∧ W.drew.cell? ⟨w.heap.size + 1, 1, none⟩ = some (.slice (some ⟨kb, 0, none⟩) ks.length kc)) := ⟨by rw [cell_of_row _ _ 0 _ _ _ B1d.out]; rfl, by rw [cell_of_row _ _ 1 _ _ _ B1d.out]; rfl⟩
    have HCL := hide (clone_any ⟨kb, 0, none⟩ kc ks W.drew (by omega) (by omega) Zd.out.at)
    refine wp_unt (S := fun V => V.cell? ⟨w.heap.size + 1, 0, none⟩ = some (.int .i64 lv) ∧ V.cell? ⟨w.heap.size + 1, 1, none⟩ = some (.slice (some ⟨kb, 0, none⟩) ks.length kc)) 6 (by kernel_rfl) ?_
    clear yd B0 B1 Z1 Y1
    generalize W.drew = wd at *
    refine UntH.take (i := 0) (some 20) rfl rfl (by kernel_rfl) (by kernel_rfl) (by kernel_rfl) (by kernel_rfl) (fun _ _ _ _ h => h) (by rfl) HS0.out ?_
    apply Exists.intro
    refine ⟨fun w' hw' => ?_, ?_⟩
    · obtain ⟨q0, q1⟩ := hw'
      go_simp
      first | done | rfl
    try simp only [Act.put, List.setIfInBounds_toArray, List.set_cons_zero, List.set_cons_succ]
    refine UntH.take (i := 1) (some 21) rfl rfl (by kernel_rfl) (by kernel_rfl) (by kernel_rfl) (by kernel_rfl) (fun _ _ _ _ h => h) (by rfl) HS0.out ?_
    apply Exists.intro
    refine ⟨fun w' hw' => ?_, ?_⟩
    · obtain ⟨q0, q1⟩ := hw'
      go_simp
      first | done | rfl
    try simp only [Act.put, List.setIfInBounds_toArray, List.set_cons_zero, List.set_cons_succ]
    refine UntH.take (i := 2) (some 22) rfl rfl (by kernel_rfl) (by kernel_rfl) (by kernel_rfl) (by kernel_rfl) (fun _ _ _ _ h => h) (by rfl) HS0.out ?_
    apply Exists.intro
    refine ⟨fun w' hw' => ?_, ?_⟩
    · obtain ⟨q0, q1⟩ := hw'
      go_simp
      first | done | rfl
    try simp only [Act.put, List.setIfInBounds_toArray, List.set_cons_zero, List.set_cons_succ]
    refine UntH.take (i := 3) (some 23) rfl rfl (by kernel_rfl) (by kernel_rfl) (by kernel_rfl) (by kernel_rfl) (fun _ _ _ _ h => h) (by rfl) HS0.out ?_
    apply Exists.intro
    refine ⟨fun w' hw' => ?_, ?_⟩
    · obtain ⟨q0, q1⟩ := hw'
      go_simp
      first | done | rfl
    try simp only [Act.put, List.setIfInBounds_toArray, List.set_cons_zero, List.set_cons_succ]
    refine UntH.step (i := 4) (by kernel_rfl) rfl (fun K hK => ?_)
    go_simp
    refine HCL.out.mono ?_
    rintro e w6 ⟨⟨g6, cg6, rfl, o6, z6, l6⟩, x6⟩
    have O6 := hide (own_mono o6 Yd.out.size)
    have Z6 := hide z6
    have L6 := hide (Nat.le_trans Yd.out.size l6)
    have HL6 := hide l6
    have Y6 := hide (bt Yd.out x6 (Nat.le_refl _))
    have B06 := hide ((x6.block _ (lt_of_block B0d.out)).trans B0d.out)
    have B16 := hide ((x6.block _ (lt_of_block B1d.out)).trans B1d.out)
    have HBL := hide (lt_of_block B0d.out)
    have HS6 : Hid (w6.cell? ⟨w.heap.size + 1, 0, none⟩ = some (.int .i64 lv) ∧ w6.cell? ⟨w.heap.size + 1, 1, none⟩ = some (.slice (some ⟨kb, 0, none⟩) ks.length kc)) := ⟨by rw [cell_of_row _ _ 0 _ _ _ B16.out]; rfl, by rw [cell_of_row _ _ 1 _ _ _ B16.out]; rfl⟩
    refine hK _ _ HS6.out ?_
    clear hK K o6 z6 l6 x6 HCL
    try simp only [Act.put, List.setIfInBounds_toArray, List.set_cons_zero, List.set_cons_succ]
    refine UntH.take (i := 5) (some 25) rfl rfl (by kernel_rfl) (by kernel_rfl) (by kernel_rfl) (by kernel_rfl) (fun _ _ _ _ h => h) (by rfl) HS6.out ?_
    apply Exists.intro
    refine ⟨fun w' hw' => ?_, ?_⟩
    · obtain ⟨q0, q1⟩ := hw'
      go_simp
      first | done | rfl
    try simp only [Act.put, List.setIfInBounds_toArray, List.set_cons_zero, List.set_cons_succ]
    have r0 : w6.cell? ⟨w.heap.size, 0, none⟩ = some (.int .i64 0) := by rw [cell_of_row _ _ 0 _ _ _ B06.out]; rfl
    have r1 : w6.cell? ⟨w.heap.size, 1, none⟩ = some (.slice none 0 0) := by rw [cell_of_row _ _ 1 _ _ _ B06.out]; rfl
    have f0 := frozen_of_row w6 w.heap.size 0 _ _ B06.out
    have f1 := frozen_of_row w6 w.heap.size 1 _ _ B06.out
    refine UntH.stepf (i := 6) (by kernel_rfl) rfl (by kernel_rfl) (fun K hK => ?_)
    go_simp
    refine hK _ _ ?_
    clear hK K r0 r1 f0 f1 HS0 HS6 B1d B16
    have b2 := block_setCell (block_setCell B06.out 0 (.int .i64 lv)) 1 (.slice (some ⟨g6, 0, none⟩) ks.length cg6)
    have k2 : Kept (fun k => k = w.heap.size) w6 ((w6.setCell ⟨w.heap.size, 0, none⟩ (.int .i64 lv)).setCell ⟨w.heap.size, 1, none⟩ (.slice (some ⟨g6, 0, none⟩) ks.length cg6)) := Kept.setCell (F := fun k => k = w.heap.size) (p := ⟨w.heap.size, 1, none⟩) (Kept.setCell (F := fun k => k = w.heap.size) (p := ⟨w.heap.size, 0, none⟩) (Kept.refl _ _) rfl _) rfl _
    have HB2 := hide b2
    have HK2 := hide k2
    have hng : ¬ g6 = w.heap.size := by have h1 := HL6.out; have h2 := HBL.out; omega
    have Y7 := hide (bl (bl Y6.out (Nat.le_refl _) 0 (.int .i64 lv)) (Nat.le_refl _) 1 (.slice (some ⟨g6, 0, none⟩) ks.length cg6))
    clear b2 k2
    generalize (w6.setCell ⟨w.heap.size, 0, none⟩ (.int .i64 lv)).setCell ⟨w.heap.size, 1, none⟩ (.slice (some ⟨g6, 0, none⟩) ks.length cg6) = w7 at *
    have O7 := hide (own_kept O6.out HK2.out (fun k hk e => hng (by have : g6 = k := Option.some.inj hk; omega)))
    have Z7 := hide (Z6.out.kept HK2.out hng)
    refine UntH.stepf (i := 7) (by kernel_rfl) rfl (by kernel_rfl) (fun K hK => ?_)
    go_simp
    refine hK _ _ ?_
    clear hK K
    refine UntH.end (by kernel_rfl) ?_
    go_wp2
    have r3 : w7.cell? ⟨w.heap.size, 0, none⟩ = some (.int .i64 lv) := by rw [cell_of_row w7 w.heap.size 0 _ _ _ HB2.out]; rfl
    have r4 : w7.cell? ⟨w.heap.size, 1, none⟩ = some (.slice (some ⟨g6, 0, none⟩) ks.length cg6) := by rw [cell_of_row w7 w.heap.size 1 _ _ _ HB2.out]; rfl
    refine bodyPost_ret (by simp [results, Try.results45, go_sem, r3, r4]; try rfl) rfl ?_
    exact ⟨.inl ⟨i, lv, ks, g6, cg6, HND.out, rfl, rfl, O7.out, Z7.out, L6.out⟩, Y7.out⟩
  · have e0 : isN R.length f = false := by
      by_cases h1 : 2 ≤ f
      · exact isN_hi (fun h2 => hc ⟨h1, h2⟩)
      · exact isN_lo h1
    rw [e0] at HN
    have HN' := hide HN
    have HC : Hid (¬ (2 ≤ f ∧ f < ((R.map ND.nd).length : Int) + 2)) := by unfold Hid; rw [List.length_map]; exact hc
    clear HN e0 hc h h0
    have HY0 := hide y0
    have r0 : (w.alloc (.cells #[.int .i64 0, .slice none 0 0] 86)).cell? ⟨w.heap.size, 0, none⟩ = some (.int .i64 0) := by rw [cell_of_row _ _ 0 _ _ _ b0]; rfl
    have r1 : (w.alloc (.cells #[.int .i64 0, .slice none 0 0] 86)).cell? ⟨w.heap.size, 1, none⟩ = some (.slice none 0 0) := by rw [cell_of_row _ _ 1 _ _ _ b0]; rfl
    clear y0
    go_enter Try.func45, Try.ntmps45
    go_wp2_with (go_at_call 50; refine HN'.out.mono ?_; rintro e w1 ⟨rfl, hw1⟩; subst hw1)
    refine bodyPost_ret (by simp [results, Try.results45, go_sem, r0, r1]; try rfl) rfl ?_
    exact ⟨.inr ⟨HC.out, rfl⟩, HY0.out⟩
end
end Go.Proofs.Ytnddhkhmbjeefaa
/-
  The program's Back by its contract. No condition.
-/
namespace Go.Proofs.Ytnddhkhmbjeefaa
open Go.RowKit Go.Lib Go.Maps

theorem own_setCells {base size g n cap : Nat} {e : TypeId} : ∀ (vs : List Value) (o : Nat) (w : World) (xs : List Value), w.ownsRow base e size (.slice (some ⟨g, 0, none⟩) n cap) n xs → ∃ ys, (w.setCells g o vs).ownsRow base e size (.slice (some ⟨g, 0, none⟩) n cap) n ys ∧ ys.take o = xs.take o ∧ Kept (fun k => k = g) w (w.setCells g o vs)
  | [], _, w, xs, h => ⟨xs, h, rfl, Kept.refl _ _⟩
  | v :: vs, o, w, xs, h => by
    obtain ⟨h1, h2⟩ := h.stored o v
    obtain ⟨ys, g1, g2, g3⟩ := own_setCells vs (o + 1) (w.setCell ⟨g, o, none⟩ v) _ h1
    refine ⟨ys, g1, ?_, ((kept_of_grown h2).mono (fun k hk => by injection hk with hk; exact hk.symm)).trans g3⟩
    have := congrArg (List.take o) g2
    rw [List.take_take, List.take_take, Nat.min_eq_left (by omega)] at this
    rw [this]
    apply List.ext_getElem?
    intro i
    by_cases hi : i < o
    · rw [List.getElem?_take_of_lt hi, List.getElem?_take_of_lt hi, List.getElem?_set_ne (by omega)]
    · rw [List.getElem?_eq_none (by rw [List.length_take]; omega), List.getElem?_eq_none (by rw [List.length_take]; omega)]
theorem own_take {w : World} {base size g n cap k : Nat} {e : TypeId} {xs : List Value} (h : w.ownsRow base e size (.slice (some ⟨g, 0, none⟩) n cap) n xs) (hk : k ≤ n) : w.ownsRow base e size (.slice (some ⟨g, 0, none⟩) k cap) k (xs.take (k * size)) := by
  have hkm : k * size ≤ n * size := Nat.mul_le_mul_right _ hk
  refine ⟨by rw [List.length_take, h.1]; omega, ?_⟩
  rcases h.2 with ⟨e, _⟩ | ⟨g', cap', cur, e, hb, hg, h1, h2, h3, h4⟩
  · cases e
  · injection e with e1 e2 e3
    injection e1 with e1; injection e1 with e1
    subst e1 e3
    refine .inr ⟨g, cap, cur, rfl, hb, hg, by omega, h2, h3, ?_⟩
    rw [← h4, List.take_take, Nat.min_eq_left hkm]
/-- 'clear(s)' of elements of whatever size. -/
theorem run_clear_wide {P : Program} (w : World) (t e ty : TypeId) (z : Value) (ht : P.underlying t = some (.slice e)) (hv : ∀ w, (zeroValue e).run P w = .ok z w) (b o n c : Nat) (hn : 0 < n) (h1 : ∀ v ∈ (Builtin.zeroCells z.cells n).toList, v.oneCell' = true)
    (hc : ∀ j, j < n * z.cells.size → (w.cell? ⟨b, o + j, none⟩).isSome = true) (hf : ∀ j, j < n * z.cells.size → w.frozen? ⟨b, o + j, none⟩ = false) :
    (Builtin.clear_ #[t] ty #[.slice (some ⟨b, o, none⟩) n c]).run P w = .ok (.tuple #[]) (w.setCells b o (Builtin.zeroCells z.cells n).toList) := by
  have hl : (Builtin.zeroCells z.cells n).toList.length = n * z.cells.size := by simp [Builtin.zeroCells]
  have hst := run_storeCells_cells (P := P) b o (Builtin.zeroCells z.cells n).toList 0 w (by rw [hl]; simpa using hc) (by rw [hl]; simpa using hf) h1
  simp only [Nat.add_zero] at hst
  obtain ⟨m, rfl⟩ : ∃ m, n = m + 1 := ⟨n - 1, by omega⟩
  simp [Builtin.clear_, run_underlying ht, hv, hst]
theorem zero47_one (n : Nat) : ∀ v ∈ (Builtin.zeroCells (Value.agg #[.int .i64 0, .slice none 0 0]).cells n).toList, v.oneCell' = true := fun v hv => by
  simp only [Builtin.zeroCells, Array.toList_map, List.mem_map] at hv
  obtain ⟨i, _, rfl⟩ := hv
  have h2 : (Value.agg #[.int .i64 0, .slice none 0 0]).cells = #[.int .i64 0, .slice none 0 0] := rfl
  rw [h2]
  have : i % 2 = 0 ∨ i % 2 = 1 := by omega
  rcases this with h | h <;> simp [h, Value.oneCell']
/-- Keys that go. -/
theorem MpAt.drop {w' : World} {b m : Nat} {A B : List Lit} {kl : Lit} {D : DataW Unit} (hn : kl ∉ A) (hn2 : kl ∉ B) (hh : ∀ x, Maps.has D x = true ↔ x ∈ A ∨ x ∈ kl :: B) (ha : ∀ i (h : i < A.length), D.atKey A[i] (.lit (.int .i64 0)) = .lit (.int .i64 ((i : Int) + 2)))
    (h1 : w'.ownsMap Try.prog 9 (plainElem Try.prog 3) b m (D.del kl)) : MpAt w' b m A B := by
  refine ⟨_, h1, fun x => ?_, fun i hi => ?_⟩
  · by_cases hx : x = kl
    · subst hx
      rw [Maps.has_del_same]
      simp [hn, hn2]
    · rw [Maps.has_del_other hx, hh x]
      simp [hx]
  · rw [Maps.atKey_del_other (fun e => hn (by rw [← e]; exact List.getElem_mem hi))]
    exact ha i hi
theorem MpAt.part {w : World} {b m : Nat} {A : List Lit} (h : MpAt w b m A []) (n : Nat) : MpAt w b m (A.take n) (A.drop n) := by
  obtain ⟨D, h1, h2, h3⟩ := h
  refine ⟨D, h1, fun kl => ?_, fun i hi => ?_⟩
  · rw [h2 kl, ← List.mem_append, ← List.mem_append, List.take_append_drop, List.append_nil]
  · rw [List.length_take] at hi
    rw [List.getElem_take]
    exact h3 i (by omega)
section
variable {w : World} {a : Nat} {S : List Int} {M : Int} {R : List ND} {N : List Nd} {m : Nat} {P : Nat → Prop} {sb sc mb : Nat} {nv : Value}
/-- No two nodes have one key. -/
theorem own_cap {w : World} {base size n cap : Nat} {a : Addr} {e : TypeId} {xs : List Value} (h : w.ownsRow base e size (.slice (some a) n cap) n xs) : n ≤ cap := by
  rcases h.2 with ⟨e, _⟩ | ⟨g', cap', cur, e, hb, hg, h1, _⟩
  · cases e
  · injection e with _ _ e3
    omega
theorem own_cap' {w : World} {base size n cap : Nat} {ao : Option Addr} {e : TypeId} {xs : List Value} (h : w.ownsRow base e size (.slice ao n cap) n xs) : n ≤ cap := by
  rcases h.2 with ⟨e, _⟩ | ⟨g', cap', cur, e, hb, hg, h1, _⟩
  · injection e with _ e2 e3; omega
  · injection e with _ _ e3
    omega
theorem own_take' {w : World} {base size n cap k : Nat} {ao : Option Addr} {e : TypeId} {xs : List Value} (h : w.ownsRow base e size (.slice ao n cap) n xs) (hk : k ≤ n) : w.ownsRow base e size (.slice ao k cap) k (xs.take (k * size)) := by
  rcases h.2 with ⟨e, e2⟩ | ⟨g', cap', cur, e, _⟩
  · injection e with e1 e3 e4
    subst e1 e4
    obtain rfl : k = 0 := by omega
    exact ⟨by simp, .inl ⟨rfl, rfl⟩⟩
  · injection e with e1 _ _
    subst e1
    exact own_take h hk
theorem CAx.keys (h : CAx w a S M R m P sb sc nv mb) : (R.map fun x => keyL x.nd).Nodup := by
  rw [List.nodup_iff_pairwise_ne, List.pairwise_map, List.pairwise_iff_getElem]
  intro i j hi hj hij e
  have hm1 := h.ok.may (i := i) (by rw [List.length_map]; exact hi)
  have hm2 := h.ok.may (i := j) (by rw [List.length_map]; exact hj)
  rw [List.getElem_map] at hm1 hm2
  unfold keyL at e
  injection e with e
  have e2 := h.ok.key_inj hm1 hm2 e
  have hp := List.pairwise_iff_getElem.1 h.ok.nod i j (by rw [List.length_map]; exact hi) (by rw [List.length_map]; exact hj) hij
  rw [List.getElem_map, List.getElem_map] at hp
  exact hp e2
/-- What Back leaves. -/
def BkL (N : List Nd) (n : Int) (w : World) (e : Ending) (w' : World) (L : List Nd → World → Prop) (P : Nat → Prop) : Prop :=
  (0 ≤ n ∧ n ≤ (N.length : Int) ∧ e = .returned (.int .i64 0) ∧ L (N.take n.toNat) w' ∧ Kept P w w') ∨ (¬ (0 ≤ n ∧ n ≤ (N.length : Int)) ∧ e = .returned (.int .i64 1) ∧ Below w.heap.size w w')
/-- The nodes that stay. -/
theorem CAx.cut (h : CAx w a S M R m P sb sc nv mb) {n : Nat} {w1 w2 : World} (k1 : Kept (fun k => k = mb) w w1) (hm : MpAt w1 mb m ((R.map fun x => keyL x.nd).take n) []) (k2 : Kept (fun k => nv.ownBlock = some k) w1 w2) {nv' : Value} (hr : w2.ownsRow 0 86 2 nv' (min n R.length) ((ndC R).take (n * 2))) (hn : ∀ k, nv'.ownBlock = some k → nv.ownBlock = some k) :
    CA (w2.setCell ⟨a, 2, none⟩ nv') a S M ((R.map ND.nd).take n) m P ∧ Kept P w (w2.setCell ⟨a, 2, none⟩ nv') := by
  have k3 : Kept (fun k => k = a) w2 (w2.setCell ⟨a, 2, none⟩ nv') := Kept.setCell (F := fun k => k = a) (p := ⟨a, 2, none⟩) (Kept.refl _ _) rfl _
  obtain ⟨es, cl, hmb⟩ := h.map.blk
  have ham : a ≠ mb := fun e => by subst e; rw [h.blk] at hmb; cases hmb
  have hna : ¬ nv.ownBlock = some a := fun hF => by
    obtain ⟨cs, h5⟩ := own_ty h.row _ hF
    rw [h.blk] at h5
    simp at h5
  have kk : Kept (fun k => k = mb ∨ nv.ownBlock = some k ∨ k = a) w (w2.setCell ⟨a, 2, none⟩ nv') := ((k1.mono (fun _ h => .inl h)).trans (k2.mono (fun _ h => .inr (.inl h)))).trans (k3.mono (fun _ h => .inr (.inr h)))
  have zk : ∀ {b : Nat} {L : List Int}, ZBk w b L → ZBk (w2.setCell ⟨a, 2, none⟩ nv') b L := fun hz => hz.kept kk (fun hF => by
    rcases hF with hF | hF | hF
    · exact hz.ne_map hmb hF
    · obtain ⟨cs, h5⟩ := own_ty h.row _ hF
      exact hz.ne h5 (by decide) rfl
    · exact hz.ne h.blk (by decide) hF)
  have hb1 := (k1.block a (lt_of_block h.blk) ham).trans h.blk
  have hb2 := (k2.block a (lt_of_block hb1) hna).trans hb1
  have hb3 : (w2.setCell ⟨a, 2, none⟩ nv').heap[a]? = some (.cells #[.slice (some ⟨sb, 0, none⟩) S.length sc, .int .i64 M, nv', .map (some mb)] 83 (0, 0)) := by
    have := block_setCell hb2 2 nv'
    simpa using this
  have hm2 := (hm.kept k2 (own_ne_map h.map h.row)).kept k3 (fun e => ham e.symm)
  have hr3 : (w2.setCell ⟨a, 2, none⟩ nv').ownsRow 0 86 2 nv' (R.take n).length (ndC (R.take n)) := by
    rw [ndC_take, List.length_take]
    exact own_kept hr k3 (fun k hk e => hna (by rw [← e]; exact hn k hk))
  refine ⟨⟨R.take n, sb, sc, nv', mb, ⟨hb3, zk h.sz, hr3, fun x hx => zk (h.kid x (List.mem_of_mem_take hx)), by rw [List.map_take]; exact hm2, h.pa, h.ps, fun k hk => h.pn k (hn k hk), h.pm, fun x hx => h.pk x (List.mem_of_mem_take hx), fun k hk => Nat.lt_of_lt_of_le (h.plt k hk) kk.size, by rw [List.map_take]; exact h.ok.take n⟩, List.map_take⟩, kk.mono (fun k hk => ?_)⟩
  rcases hk with hk | hk | hk
  · rw [hk]; exact h.pm
  · exact h.pn k hk
  · rw [hk]; exact h.pa
end
end Go.Proofs.Ytnddhkhmbjeefaa
/-
  The program's arena: its calls, by what they say of the list of nodes. Condition: lists no longer than a process can hold.
-/
namespace Go.Proofs.Ytnddhkhmbjeefaa
open Go.RowKit Go.Lib Go.Maps

section
variable {w w' : World} {a x : Nat} {S : List Int} {M : Int} {N : List Nd} {m : Nat} {P Q : Nat → Prop}
theorem CA.make (h : CA w a S M N m P) (lv : Int) (ao : Option Addr) (cap : Nat) (A : List Int) (hl : A.length ≤ 140737488351232) (hz : ZAt w ao A) (hm : m ≤ 1152921504606846976) :
    Calls Try.prog 22 #[.pointer (some ⟨a, 0, none⟩), .int .i64 lv, .slice ao A.length cap] w fun e w' => MkL S M N lv A w e w' (fun N' P' V => CA V a S M N' (m + 1) P') P := by
  obtain ⟨R, sb, sc, nv, mb, h1, rfl⟩ := h
  exact makeC_any lv ao cap A hl hz h1 hm
theorem CA.node (h : CA w a S M N m P) (f : Int) : Calls Try.prog 45 #[.pointer (some ⟨a, 0, none⟩), .int .i64 f] w fun e w' => NdL N f w e w' := by
  obtain ⟨R, sb, sc, nv, mb, h1, rfl⟩ := h
  exact nodeC_any f h1
theorem CA.level (h : CA w a S M N m P) (f : Int) : Calls Try.prog 24 #[.pointer (some ⟨a, 0, none⟩), .int .i64 f] w fun e w' => e = .returned (.int .i64 (lvl S N f)) ∧ w' = w := by
  obtain ⟨R, sb, sc, nv, mb, h1, rfl⟩ := h
  exact level_any f h1
theorem CA.has (h : CA w a S M N m P) (f : Int) : Calls Try.prog 53 #[.pointer (some ⟨a, 0, none⟩), .int .i64 f] w fun e w' => e = .returned (.bool (hasN N.length f)) ∧ w' = w := by
  obtain ⟨R, sb, sc, nv, mb, h1, rfl⟩ := h
  rw [List.length_map]
  exact has_any f h1
theorem CA.len (h : CA w a S M N m P) : Calls Try.prog 20 #[.pointer (some ⟨a, 0, none⟩)] w fun e w' => e = .returned (.int .i64 (N.length : Int)) ∧ w' = w := by
  obtain ⟨R, sb, sc, nv, mb, h1, rfl⟩ := h
  rw [List.length_map]
  exact len_any h1
theorem CA.sizes (h : CA w a S M N m P) : Calls Try.prog 17 #[.pointer (some ⟨a, 0, none⟩)] w fun e w' => (∃ g c, e = .returned (.slice (some ⟨g, 0, none⟩) S.length c) ∧ w'.ownsRow w.heap.size 3 1 (.slice (some ⟨g, 0, none⟩) S.length c) S.length (zC S) ∧ ZBk w' g S ∧ w.heap.size ≤ g) ∧ Below w.heap.size w w' := by
  obtain ⟨R, sb, sc, nv, mb, h1, rfl⟩ := h
  exact sizes_any h1
end
/-- May, looked at. -/
def mayB (S : List Int) (N : List Nd) (lv : Int) (ks : List Int) : Bool := decide (0 ≤ lv) && decide (lv < (S.length : Int)) && decide ((ks.length : Int) = S.getD lv.toNat 0) && ks.all fun f => decide (hasR N f) && decide (lv < lvl S N f)
theorem mayB_iff (S : List Int) (N : List Nd) (lv : Int) (ks : List Int) : mayB S N lv ks = true ↔ May S N lv ks := by
  unfold mayB
  simp only [Bool.and_eq_true, decide_eq_true_eq, List.all_eq_true]
  exact ⟨fun h => ⟨h.1.1.1, h.1.1.2, h.1.2, h.2⟩, fun h => ⟨⟨⟨h.ge, h.lt⟩, h.len⟩, h.kid⟩⟩
theorem may_no {S : List Int} {N : List Nd} {lv : Int} {ks : List Int} (h : mayB S N lv ks = false) : ¬ May S N lv ks := fun k => by
  rw [(mayB_iff S N lv ks).2 k] at h
  cases h
end Go.Proofs.Ytnddhkhmbjeefaa
/-
  known by its contract. No condition.
-/
namespace Go.Proofs.Ytnddhkhmbjeefaa
open Go.RowKit Go.Lib Go.Maps

theorem zat_new (w : World) (L : List Int) : ZAt (w.alloc (.cells (zC L).toArray 3)) (some ⟨w.heap.size, 0, none⟩) L := by
  refine .inr ⟨w.heap.size, 0, rfl, by simp, fun i hi => ?_⟩
  rw [Nat.zero_add, cell_of_row _ _ i _ _ _ (heap_alloc_new w _), List.getElem?_toArray, zC_get L hi]
/-- Make, where its answer is known. -/
theorem CA.made {w : World} {a : Nat} {S : List Int} {M : Int} {N N' : List Nd} {m : Nat} {P : Nat → Prop} (h : CA w a S M N m P) {lv f er : Int} {A : List Int} (g c : Nat) (hk : MkP S M N lv A f er N') (hl : A.length ≤ 140737488351232) (hz : ZAt w (some ⟨g, 0, none⟩) A) (hm : m ≤ 1000) {w0 : World} (hb : Below w0.heap.size w0 w) (hp : ∀ k, P k → w0.heap.size ≤ k) :
    Calls Try.prog 22 #[.pointer (some ⟨a, 0, none⟩), .int .i64 lv, .slice (some ⟨g, 0, none⟩) A.length c] w fun e w' => e = .returned (.tuple #[.int .i64 f, .int .i64 er]) ∧ ∃ P', CA w' a S M N' (m + 1) P' ∧ Below w0.heap.size w0 w' ∧ ∀ k, P' k → w0.heap.size ≤ k := by
  refine (h.make lv _ c A hl hz (by omega)).mono ?_
  rintro e w' ⟨f2, er2, N2, rfl, h2, P', h3, h4, h5, _⟩
  obtain ⟨rfl, rfl, rfl⟩ := MkP.one h.ok.nod h2 hk
  exact ⟨rfl, P', h3, hb.trans (h4.below hb.size hp), fun k hk => (h5 k hk).elim (hp k) (Nat.le_trans hb.size)⟩
end Go.Proofs.Ytnddhkhmbjeefaa
