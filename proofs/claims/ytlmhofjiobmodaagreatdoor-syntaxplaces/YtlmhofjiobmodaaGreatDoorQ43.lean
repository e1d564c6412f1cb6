/-
  Parse by its contract: any source. Condition: what the library's variable holds lies below.
-/
import Derived.Test.YtlmhofjiobmodaaGreatDoorQ26
import Derived.Test.YtlmhofjiobmodaaGreatDoorQ42
namespace Go.Proofs.YtlmhofjiobmodaaGreatDoor
open Go.RowKit Go.Lib

/-- A policy as it lies in memory, or what is wrong. -/
def ParP (s : By) (base : Nat) (e : Ending) (w : World) : Prop := match parsQ s with
  | .error (c, q) => e = .returned (.tuple #[.agg #[.slice none 0 0], .int .i64 c, .int .i64 q])
  | .ok L => ∃ v cs bs, e = .returned (.tuple #[.agg #[v], .int .i64 0, .int .i64 0]) ∧ PolA w base L v cs bs
theorem ParP.err {s : By} {base : Nat} {e : Ending} {w : World} {c q : Int} (h : parsQ s = .error (c, q)) (he : e = .returned (.tuple #[.agg #[.slice none 0 0], .int .i64 c, .int .i64 q])) : ParP s base e w := by
  unfold ParP
  rw [h]
  exact he
theorem ParP.okI {s : By} {base : Nat} {e : Ending} {w : World} {L : List IT} {v : Value} {cs : List Value} {bs : List Nat} (h : parsQ s = .ok L) (he : e = .returned (.tuple #[.agg #[v], .int .i64 0, .int .i64 0])) (h1 : PolA w base L v cs bs) : ParP s base e w := by
  unfold ParP
  rw [h]
  exact ⟨v, cs, bs, he, h1⟩
theorem Kept.low {w w1 w9 : World} {F : Nat → Prop} (h : Below w.heap.size w w1) (hk : Kept F w1 w9) (hF : ∀ k, F k → w.heap.size ≤ k) : Below w.heap.size w w9 :=
  ⟨hk.os.trans h.os, hk.tape.trans h.tape, hk.output.trans h.output, Nat.le_trans h.size hk.size, fun k hlt => (hk.block k (Nat.lt_of_lt_of_le hlt h.size) (fun hf => by have := hF k hf; omega)).trans (h.block k hlt)⟩
theorem Leaves.congr {P : Program} {fn : Func} {t1 t2 : Array Value} {R : Ending → World → Prop} (hr : results fn t1 = results fn t2) : ∀ {ds : List Deferred} {u : FrameMode} {w : World}, Leaves P fn t1 R ds u w → Leaves P fn t2 R ds u w
  | [], .returning, w, h => by
    obtain ⟨v, h1, h2⟩ := h
    exact ⟨v, by rw [← hr]; exact h1, h2⟩
  | [], .panicking chain, w, h => h
  | [], .run, _, h => h
  | d :: ds, u, w, h => by
    obtain ⟨h0, fv, cap, f, args, h1, h2, h3⟩ := h
    refine ⟨h0, fv, cap, f, args, h1, h2, h3.mono ?_⟩
    intro e u' w' h4
    cases e with
    | returned v => exact Leaves.congr hr h4
    | panicked chain => exact Leaves.congr hr h4
    | outgrown => exact h4
theorem put11 (a : Act) (d : Nat) (v : Value) (hd : 5 ≤ d) : results Tryz.f11 (a.put (some d) v).tmps = results Tryz.f11 a.tmps := by
  have e : ∀ k, k < 5 → (a.tmps.setIfInBounds d v)[k]? = a.tmps[k]? := fun k hk => by
    rw [Array.getElem?_setIfInBounds_ne (by omega)]
  simp [results, Tryz.results11, Act.put, e]
theorem ErrV.up {w w' : World} (h : ErrV w.heap.size w) (x : Below w.heap.size w w') : ErrV w'.heap.size w' := by
  obtain ⟨g, tp, p, h1, h2, h3⟩ := h.below x
  exact ⟨g, tp, p, h1, Nat.lt_of_lt_of_le h2 x.size, h3⟩
set_option maxRecDepth 100000 in
set_option maxHeartbeats 4000000 in
theorem parse_scanned {s : By} {c q : Int} (h : scanQ s = .error (c, q)) (w : World) (hev : ErrV w.heap.size w) :
    Calls Tryz.prog 11 #[.string ⟨s.toArray⟩] w fun e w' => ParP s w.heap.size e w' ∧ Below w.heap.size w w' := by
  have HPQ : Hid (parsQ s = .error (c, q)) := by unfold Hid parsQ; rw [h]
  have hc := scan_err_ne h
  have hcb : (c != 0) = true := by simpa using hc
  have hmf : ∀ (fn : Fn) (first cap : Array Value) (w : World), (Instr.makeFunc fn first cap).run Tryz.prog w = .ok (.func fn first cap) w := fun _ _ _ _ => rfl
  obtain ⟨p2, hp2⟩ : ∃ p, p = w.heap.size := ⟨_, rfl⟩
  obtain ⟨p3, hp3⟩ : ∃ p, p = w.heap.size + 1 := ⟨_, rfl⟩
  obtain ⟨p4, hp4⟩ : ∃ p, p = w.heap.size + 1 + 1 := ⟨_, rfl⟩
  obtain ⟨W, hW⟩ : ∃ W, W = ((w.alloc (.cells #[.slice none 0 0] 36)).alloc (.cells #[.int .i64 0] 37)).alloc (.cells #[.int .i64 0] 3) := ⟨_, rfl⟩
  have X0 := hide (show Below w.heap.size w W by rw [hW]; exact al (al (al (Below.refl _ _) _) _) _)
  have A2 := hide (show W.heap[p2]? = some (.cells #[.slice none 0 0] 36 (0, 0)) by
    rw [hW, hp2]
    exact (heap_alloc_old _ _ (by simp; omega)).trans ((heap_alloc_old _ _ (by simp)).trans (heap_alloc_new w _)))
  have A3 := hide (show W.heap[p3]? = some (.cells #[.int .i64 0] 37 (0, 0)) by
    rw [hW, hp3, show w.heap.size + 1 = (w.alloc (.cells #[.slice none 0 0] 36)).heap.size by simp]
    exact (heap_alloc_old _ _ (by simp)).trans (heap_alloc_new _ _))
  have A4 := hide (show W.heap[p4]? = some (.cells #[.int .i64 0] 3 (0, 0)) by
    rw [hW, hp4, show w.heap.size + 1 + 1 = ((w.alloc (.cells #[.slice none 0 0] 36)).alloc (.cells #[.int .i64 0] 37)).heap.size by simp]
    exact heap_alloc_new _ _)
  have HSZ : Hid (p2 = w.heap.size ∧ p3 = w.heap.size + 1 ∧ p4 = w.heap.size + 2 ∧ W.heap.size = w.heap.size + 3) := ⟨hp2, hp3, hp4, by rw [hW]; simp⟩
  have HEV := hide (hev.up X0.out)
  clear hev
  go_enter_defers Tryz.func11, Tryz.ntmps11
  go_upto_region 1 with fail
  rw [← hp4, ← hp3, ← hW, ← hp2]
  clear hW hp2 hp3 hp4
  have HS := hide (scan_errc h W HEV.out)
  have HCB := hide hcb
  clear h hc hcb
  go_wp2_with (fail)
  refine HS.out.mono ?_
  rintro e w1 ⟨rfl, x1⟩
  have X1 := hide x1
  have XA := hide (bt X0.out x1 (Nat.le_refl _))
  have B2 := hide ((x1.block p2 (lt_of_block A2.out)).trans A2.out)
  have B3 := hide ((x1.block p3 (lt_of_block A3.out)).trans A3.out)
  have B4 := hide ((x1.block p4 (lt_of_block A4.out)).trans A4.out)
  clear x1 HS A2 A3 A4 X0 X1
  have A2 := hide B2.out
  have A3 := hide B3.out
  have A4 := hide B4.out
  clear B2 B3 B4
  have c3 : w1.cell? ⟨p3, 0, none⟩ = some (.int .i64 0) := by rw [cell_of_row _ _ _ _ _ _ A3.out]; rfl
  have f3 := frozen_of_row w1 p3 0 _ _ A3.out
  have k3 : Kept (fun k => k = p3) w1 (w1.setCell ⟨p3, 0, none⟩ (.int .i64 c)) := Kept.setCell (F := fun k => k = p3) (p := ⟨p3, 0, none⟩) (Kept.refl _ _) rfl _
  have n42 : p4 ≠ p3 := by have := HSZ.out; omega
  have n23 : p2 ≠ p3 ∧ p2 ≠ p4 := by have := HSZ.out; omega
  have B4 := hide ((k3.block p4 (lt_of_block A4.out) n42).trans A4.out)
  have B3 : Hid ((w1.setCell ⟨p3, 0, none⟩ (.int .i64 c)).heap[p3]? = some (.cells #[.int .i64 c] 37 (0, 0))) := by
    have := block_setCell' A3.out 0 (.int .i64 c)
    simpa [Hid] using this
  have c4 : (w1.setCell ⟨p3, 0, none⟩ (.int .i64 c)).cell? ⟨p4, 0, none⟩ = some (.int .i64 0) := by rw [cell_of_row _ _ _ _ _ _ B4.out]; rfl
  have f4 := frozen_of_row (w1.setCell ⟨p3, 0, none⟩ (.int .i64 c)) p4 0 _ _ B4.out
  have k4 : Kept (fun k => k = p4) (w1.setCell ⟨p3, 0, none⟩ (.int .i64 c)) ((w1.setCell ⟨p3, 0, none⟩ (.int .i64 c)).setCell ⟨p4, 0, none⟩ (.int .i64 q)) := Kept.setCell (F := fun k => k = p4) (p := ⟨p4, 0, none⟩) (Kept.refl _ _) rfl _
  have C4 : Hid (((w1.setCell ⟨p3, 0, none⟩ (.int .i64 c)).setCell ⟨p4, 0, none⟩ (.int .i64 q)).heap[p4]? = some (.cells #[.int .i64 q] 3 (0, 0))) := by
    have := block_setCell' B4.out 0 (.int .i64 q)
    simpa [Hid] using this
  have C3 := hide ((k4.block p3 (lt_of_block B3.out) n42.symm).trans B3.out)
  have D2 := hide ((k3.block p2 (lt_of_block A2.out) n23.1).trans A2.out)
  have C2 := hide ((k4.block p2 (lt_of_block D2.out) n23.2).trans D2.out)
  have K34 : Hid (Kept (fun k => k = p3 ∨ k = p4) w1 ((w1.setCell ⟨p3, 0, none⟩ (.int .i64 c)).setCell ⟨p4, 0, none⟩ (.int .i64 q))) := (k3.mono (fun _ h => .inl h)).trans (k4.mono (fun _ h => .inr h))
  go_upto_region 2 with fail
  clear c3 f3 k3 B4 B3 D2 c4 f4 k4 A2 A3 A4
  generalize (w1.setCell ⟨p3, 0, none⟩ (.int .i64 c)).setCell ⟨p4, 0, none⟩ (.int .i64 q) = w2 at *
  have c3 : w2.cell? ⟨p3, 0, none⟩ = some (.int .i64 c) := by rw [cell_of_row _ _ _ _ _ _ C3.out]; rfl
  have hcb := HCB.out
  go_upto_region 3 with fail
  clear c3 hcb
  refine wp_unt (S := fun V => V.cell? ⟨p3, 0, none⟩ = some (.int .i64 c) ∧ V.cell? ⟨p4, 0, none⟩ = some (.int .i64 q)) 5 (by kernel_rfl) ?_
  have HS0 : Hid (Below w2.heap.size w2 w2.drew) := (Below.refl _ _).drew
  have D2 := hide ((HS0.out.block p2 (lt_of_block C2.out)).trans C2.out)
  have D3 := hide ((HS0.out.block p3 (lt_of_block C3.out)).trans C3.out)
  have D4 := hide ((HS0.out.block p4 (lt_of_block C4.out)).trans C4.out)
  have KA : Hid (Kept (fun k => k = p3 ∨ k = p4) w1 w2.drew) := K34.out.trans (Kept.of_below HS0.out)
  clear HS0 C2 C3 C4 K34
  generalize w2.drew = wd at *
  have SF : Hid (∀ V : World, V.heap[p3]? = some (.cells #[.int .i64 c] 37 (0, 0)) → V.heap[p4]? = some (.cells #[.int .i64 q] 3 (0, 0)) → V.cell? ⟨p3, 0, none⟩ = some (.int .i64 c) ∧ V.cell? ⟨p4, 0, none⟩ = some (.int .i64 q)) := fun V h1 h2 => ⟨by rw [cell_of_row _ _ _ _ _ _ h1]; rfl, by rw [cell_of_row _ _ _ _ _ _ h2]; rfl⟩
  have SA := hide (SF.out wd D3.out D4.out)
  refine UntH.take (i := 0) (some 15) rfl rfl (by kernel_rfl) (by kernel_rfl) (by kernel_rfl) (by kernel_rfl) (fun _ _ a _ h => Leaves.congr (put11 a _ _ (by decide)) h) (by rfl) SA.out ?_
  apply Exists.intro
  refine ⟨fun w' hw' => ?_, ?_⟩
  · obtain ⟨q1, q2⟩ := hw'
    go_simp
    first | done | rfl
  try simp only [Act.put, List.setIfInBounds_toArray, List.set_cons_zero, List.set_cons_succ]
  refine UntH.take (i := 1) (some 16) rfl rfl (by kernel_rfl) (by kernel_rfl) (by kernel_rfl) (by kernel_rfl) (fun _ _ a _ h => Leaves.congr (put11 a _ _ (by decide)) h) (by rfl) SA.out ?_
  apply Exists.intro
  refine ⟨fun w' hw' => ?_, ?_⟩
  · obtain ⟨q1, q2⟩ := hw'
    go_simp
    first | done | rfl
  try simp only [Act.put, List.setIfInBounds_toArray, List.set_cons_zero, List.set_cons_succ]
  refine UntH.take (i := 2) (some 17) rfl rfl (by kernel_rfl) (by kernel_rfl) (by kernel_rfl) (by kernel_rfl) (fun _ _ a _ h => Leaves.congr (put11 a _ _ (by decide)) h) (by rfl) SA.out ?_
  apply Exists.intro
  refine ⟨fun w' hw' => ?_, ?_⟩
  · obtain ⟨q1, q2⟩ := hw'
    go_simp
    first | done | rfl
  try simp only [Act.put, List.setIfInBounds_toArray, List.set_cons_zero, List.set_cons_succ]
  have ks : ∀ (V : World) (b : Nat) (u : Value), Kept (fun k => k = b) V (V.setCell ⟨b, 0, none⟩ u) := fun V b u => Kept.setCell (F := fun k => k = b) (p := ⟨b, 0, none⟩) (Kept.refl _ _) rfl u
  have c2 : wd.cell? ⟨p2, 0, none⟩ = some (.slice none 0 0) := by rw [cell_of_row _ _ _ _ _ _ D2.out]; rfl
  have f2 := frozen_of_row wd p2 0 _ _ D2.out
  have k2 := ks wd p2 (.slice none 0 0)
  have E2 : Hid ((wd.setCell ⟨p2, 0, none⟩ (.slice none 0 0)).heap[p2]? = some (.cells #[.slice none 0 0] 36 (0, 0))) := by
    have := block_setCell' D2.out 0 (.slice none 0 0)
    simpa [Hid] using this
  have E3 := hide ((k2.block p3 (lt_of_block D3.out) n23.1.symm).trans D3.out)
  have E4 := hide ((k2.block p4 (lt_of_block D4.out) n23.2.symm).trans D4.out)
  have KB : Hid (Kept (fun k => k = p2 ∨ k = p3 ∨ k = p4) w1 (wd.setCell ⟨p2, 0, none⟩ (.slice none 0 0))) := (KA.out.mono (fun _ h => .inr h)).trans (k2.mono (fun _ h => .inl h))
  have SB := hide (SF.out _ E3.out E4.out)
  refine UntH.step (i := 3) (by kernel_rfl) rfl (fun K hK => ?_)
  go_simp
  refine hK _ _ SB.out ?_
  clear hK K c2 f2 k2 D2 D3 D4 KA SA
  generalize wd.setCell ⟨p2, 0, none⟩ (.slice none 0 0) = w4 at *
  have c3 := SB.out.1
  have f3 := frozen_of_row w4 p3 0 _ _ E3.out
  have k3 := ks w4 p3 (.int .i64 c)
  have F3 : Hid ((w4.setCell ⟨p3, 0, none⟩ (.int .i64 c)).heap[p3]? = some (.cells #[.int .i64 c] 37 (0, 0))) := by
    have := block_setCell' E3.out 0 (.int .i64 c)
    simpa [Hid] using this
  have F2 := hide ((k3.block p2 (lt_of_block E2.out) n23.1).trans E2.out)
  have F4 := hide ((k3.block p4 (lt_of_block E4.out) n42).trans E4.out)
  have KC : Hid (Kept (fun k => k = p2 ∨ k = p3 ∨ k = p4) w1 (w4.setCell ⟨p3, 0, none⟩ (.int .i64 c))) := KB.out.trans (k3.mono (fun _ h => .inr (.inl h)))
  have SC := hide (SF.out _ F3.out F4.out)
  refine UntH.step (i := 4) (by kernel_rfl) rfl (fun K hK => ?_)
  go_simp
  refine hK _ _ SC.out ?_
  clear hK K c3 f3 k3 E2 E3 E4 KB SB
  generalize w4.setCell ⟨p3, 0, none⟩ (.int .i64 c) = w5 at *
  have c4 := SC.out.2
  have f4 := frozen_of_row w5 p4 0 _ _ F4.out
  have k4 := ks w5 p4 (.int .i64 q)
  have G4 : Hid ((w5.setCell ⟨p4, 0, none⟩ (.int .i64 q)).heap[p4]? = some (.cells #[.int .i64 q] 3 (0, 0))) := by
    have := block_setCell' F4.out 0 (.int .i64 q)
    simpa [Hid] using this
  have G2 := hide ((k4.block p2 (lt_of_block F2.out) n23.2).trans F2.out)
  have G3 := hide ((k4.block p3 (lt_of_block F3.out) n42.symm).trans F3.out)
  have KD : Hid (Kept (fun k => k = p2 ∨ k = p3 ∨ k = p4) w1 (w5.setCell ⟨p4, 0, none⟩ (.int .i64 q))) := KC.out.trans (k4.mono (fun _ h => .inr (.inr h)))
  refine UntH.last (by kernel_rfl) rfl (by kernel_rfl) (by kernel_rfl) (fun K hK => ?_)
  go_simp
  refine hK _ _ ?_
  clear hK K c4 f4 k4 F2 F3 F4 KC SC SF
  generalize w5.setCell ⟨p4, 0, none⟩ (.int .i64 q) = w9 at *
  have g2 : w9.cell? ⟨p2, 0, none⟩ = some (.slice none 0 0) := by rw [cell_of_row _ _ _ _ _ _ G2.out]; rfl
  have g3 : w9.cell? ⟨p3, 0, none⟩ = some (.int .i64 c) := by rw [cell_of_row _ _ _ _ _ _ G3.out]; rfl
  have g4 : w9.cell? ⟨p4, 0, none⟩ = some (.int .i64 q) := by rw [cell_of_row _ _ _ _ _ _ G4.out]; rfl
  have XB : Hid (Below w.heap.size w w9) := Kept.low XA.out KD.out (fun k hk => by have := HSZ.out; rcases hk with e | e | e <;> omega)
  go_wp2
  simp only [bodyPostD, Leaves]
  exact ⟨.tuple #[.agg #[.slice none 0 0], .int .i64 c, .int .i64 q], by simp [results, Tryz.results11, go_sem, g2, g3, g4], ParP.err HPQ.out rfl, XB.out⟩
end Go.Proofs.YtlmhofjiobmodaaGreatDoor
/-
  Parse by its contract: any source. Condition: what the library's variable holds lies below.
-/
namespace Go.Proofs.YtlmhofjiobmodaaGreatDoor
open Go.RowKit Go.Lib

theorem setCell_low {base : Nat} {w w' : World} (h : Below base w w') {b o : Nat} (hb : base ≤ b) (v : Value) : Below base w (w'.setCell ⟨b, o, none⟩ v) := h.setCell hb v
set_option maxRecDepth 100000 in
set_option maxHeartbeats 4000000 in
theorem parse_read {s : By} {Ts : List Tk} (h : scanQ s = .ok Ts) (w : World) (hev : ErrV w.heap.size w) :
    Calls Tryz.prog 11 #[.string ⟨s.toArray⟩] w fun e w' => ParP s w.heap.size e w' ∧ Below w.heap.size w w' := by
  have HPQ : Hid (parsQ s = match parseP Ts with
    | .ok L _ => .ok L
    | .bad e p => .error (e, p)
    | .out => .error (0, 0)) := by unfold Hid parsQ; rw [h]; rfl
  have HGD := hide (scan_good h)
  have hmf : ∀ (fn : Fn) (first cap : Array Value) (w : World), (Instr.makeFunc fn first cap).run Tryz.prog w = .ok (.func fn first cap) w := fun _ _ _ _ => rfl
  obtain ⟨p2, hp2⟩ : ∃ p, p = w.heap.size := ⟨_, rfl⟩
  obtain ⟨p3, hp3⟩ : ∃ p, p = w.heap.size + 1 := ⟨_, rfl⟩
  obtain ⟨p4, hp4⟩ : ∃ p, p = w.heap.size + 1 + 1 := ⟨_, rfl⟩
  obtain ⟨W, hW⟩ : ∃ W, W = ((w.alloc (.cells #[.slice none 0 0] 36)).alloc (.cells #[.int .i64 0] 37)).alloc (.cells #[.int .i64 0] 3) := ⟨_, rfl⟩
  have X0 := hide (show Below w.heap.size w W by rw [hW]; exact al (al (al (Below.refl _ _) _) _) _)
  have A2 := hide (show W.heap[p2]? = some (.cells #[.slice none 0 0] 36 (0, 0)) by
    rw [hW, hp2]
    exact (heap_alloc_old _ _ (by simp; omega)).trans ((heap_alloc_old _ _ (by simp)).trans (heap_alloc_new w _)))
  have A3 := hide (show W.heap[p3]? = some (.cells #[.int .i64 0] 37 (0, 0)) by
    rw [hW, hp3, show w.heap.size + 1 = (w.alloc (.cells #[.slice none 0 0] 36)).heap.size by simp]
    exact (heap_alloc_old _ _ (by simp)).trans (heap_alloc_new _ _))
  have A4 := hide (show W.heap[p4]? = some (.cells #[.int .i64 0] 3 (0, 0)) by
    rw [hW, hp4, show w.heap.size + 1 + 1 = ((w.alloc (.cells #[.slice none 0 0] 36)).alloc (.cells #[.int .i64 0] 37)).heap.size by simp]
    exact heap_alloc_new _ _)
  have HSZ : Hid (p2 = w.heap.size ∧ p3 = w.heap.size + 1 ∧ p4 = w.heap.size + 2 ∧ W.heap.size = w.heap.size + 3) := ⟨hp2, hp3, hp4, by rw [hW]; simp⟩
  have HEV := hide (hev.up X0.out)
  clear hev
  go_enter_defers Tryz.func11, Tryz.ntmps11
  go_upto_region 1 with fail
  rw [← hp4, ← hp3, ← hW, ← hp2]
  clear hW hp2 hp3 hp4
  have HS := hide (scan_okc h W HEV.out)
  clear h
  go_wp2_with (fail)
  refine HS.out.mono ?_
  rintro e w1 ⟨⟨tv, rfl, ht⟩, x1⟩
  obtain ⟨av, cv, htv, hav⟩ := own_shape ht
  obtain ⟨g, hg⟩ := hav HGD.out.pos
  subst hg
  subst htv
  have HT := hide ht
  have XA := hide (bt X0.out x1 (Nat.le_refl _))
  have B2 := hide ((x1.block p2 (lt_of_block A2.out)).trans A2.out)
  have B3 := hide ((x1.block p3 (lt_of_block A3.out)).trans A3.out)
  have B4 := hide ((x1.block p4 (lt_of_block A4.out)).trans A4.out)
  clear x1 HS A2 A3 A4 X0 ht hav
  have A2 := hide B2.out
  have A3 := hide B3.out
  have A4 := hide B4.out
  clear B2 B3 B4
  have c3 : w1.cell? ⟨p3, 0, none⟩ = some (.int .i64 0) := by rw [cell_of_row _ _ _ _ _ _ A3.out]; rfl
  have f3 := frozen_of_row w1 p3 0 _ _ A3.out
  have k3 : Kept (fun k => k = p3) w1 (w1.setCell ⟨p3, 0, none⟩ (.int .i64 0)) := Kept.setCell (F := fun k => k = p3) (p := ⟨p3, 0, none⟩) (Kept.refl _ _) rfl _
  have n42 : p4 ≠ p3 := by have := HSZ.out; omega
  have n23 : p2 ≠ p3 ∧ p2 ≠ p4 := by have := HSZ.out; omega
  have B4 := hide ((k3.block p4 (lt_of_block A4.out) n42).trans A4.out)
  have B3 : Hid ((w1.setCell ⟨p3, 0, none⟩ (.int .i64 0)).heap[p3]? = some (.cells #[.int .i64 0] 37 (0, 0))) := by
    have := block_setCell' A3.out 0 (.int .i64 0)
    simpa [Hid] using this
  have c4 : (w1.setCell ⟨p3, 0, none⟩ (.int .i64 0)).cell? ⟨p4, 0, none⟩ = some (.int .i64 0) := by rw [cell_of_row _ _ _ _ _ _ B4.out]; rfl
  have f4 := frozen_of_row (w1.setCell ⟨p3, 0, none⟩ (.int .i64 0)) p4 0 _ _ B4.out
  have k4 : Kept (fun k => k = p4) (w1.setCell ⟨p3, 0, none⟩ (.int .i64 0)) ((w1.setCell ⟨p3, 0, none⟩ (.int .i64 0)).setCell ⟨p4, 0, none⟩ (.int .i64 0)) := Kept.setCell (F := fun k => k = p4) (p := ⟨p4, 0, none⟩) (Kept.refl _ _) rfl _
  have C4 : Hid (((w1.setCell ⟨p3, 0, none⟩ (.int .i64 0)).setCell ⟨p4, 0, none⟩ (.int .i64 0)).heap[p4]? = some (.cells #[.int .i64 0] 3 (0, 0))) := by
    have := block_setCell' B4.out 0 (.int .i64 0)
    simpa [Hid] using this
  have C3 := hide ((k4.block p3 (lt_of_block B3.out) n42.symm).trans B3.out)
  have D2 := hide ((k3.block p2 (lt_of_block A2.out) n23.1).trans A2.out)
  have C2 := hide ((k4.block p2 (lt_of_block D2.out) n23.2).trans D2.out)
  have K34 : Hid (Kept (fun k => k = p3 ∨ k = p4) w1 ((w1.setCell ⟨p3, 0, none⟩ (.int .i64 0)).setCell ⟨p4, 0, none⟩ (.int .i64 0))) := (k3.mono (fun _ h => .inl h)).trans (k4.mono (fun _ h => .inr h))
  go_upto_region 2 with fail
  clear c3 f3 k3 B4 B3 D2 c4 f4 k4 A2 A3 A4
  have HGG : Hid (W.heap.size ≤ g) := (World.ownsRow.lt HT.out g rfl).1
  have HT2 := hide (own_kept HT.out K34.out (fun k hk hf => by
    have e : g = k := by simpa [Value.ownBlock] using hk
    have := HGG.out
    have := HSZ.out
    rcases hf with h | h <;> omega))
  have X2 : Hid (Below w.heap.size w ((w1.setCell ⟨p3, 0, none⟩ (.int .i64 0)).setCell ⟨p4, 0, none⟩ (.int .i64 0))) := Kept.low XA.out K34.out (fun k hk => by have := HSZ.out; rcases hk with e | e <;> omega)
  clear HT XA K34
  generalize (w1.setCell ⟨p3, 0, none⟩ (.int .i64 0)).setCell ⟨p4, 0, none⟩ (.int .i64 0) = w2 at *
  have c3 : w2.cell? ⟨p3, 0, none⟩ = some (.int .i64 0) := by rw [cell_of_row _ _ _ _ _ _ C3.out]; rfl
  have XR : Hid (Below w2.heap.size w2 (w2.alloc (.cells #[.slice (some ⟨g, 0, none⟩) Ts.length cv, .int .i64 0] 73))) := al (Below.refl _ _) _
  have RB := hide (heap_alloc_new w2 (.cells #[.slice (some ⟨g, 0, none⟩) Ts.length cv, .int .i64 0] 73))
  go_upto_region 6 with fail
  clear c3
  obtain ⟨rp, hrp⟩ : ∃ rp, rp = w2.heap.size := ⟨_, rfl⟩
  rw [← hrp] at RB
  rw [← hrp]
  have R5 : Hid (RdA (w2.alloc (.cells #[.slice (some ⟨g, 0, none⟩) Ts.length cv, .int .i64 0] 73)) W.heap.size rp g cv Ts 0) := ⟨RB.out, own_below HT2.out XR.out, HGD.out.pos, by have := HGD.out.few; omega, HGD.out.endk⟩
  have D2 := hide ((XR.out.block p2 (lt_of_block C2.out)).trans C2.out)
  have D3 := hide ((XR.out.block p3 (lt_of_block C3.out)).trans C3.out)
  have D4 := hide ((XR.out.block p4 (lt_of_block C4.out)).trans C4.out)
  have X5 := hide (bt X2.out XR.out (Nat.le_refl _))
  have HRP : Hid (w.heap.size ≤ rp ∧ p2 ≠ rp ∧ p3 ≠ rp ∧ p4 ≠ rp) := by
    have := lt_of_block C2.out
    have := lt_of_block C3.out
    have := lt_of_block C4.out
    have := X2.out.size
    unfold Hid
    omega
  clear hrp RB HT2 XR C2 C3 C4 X2
  generalize w2.alloc (.cells #[.slice (some ⟨g, 0, none⟩) Ts.length cv, .int .i64 0] 73) = w5 at *
  have HP := hide (policy_any (f := 5 * Ts.length + 6) (Nat.le_refl _) R5.out)
  have HNE : Hid (parseP Ts ≠ .out) := (polP_fw0 (5 * Ts.length + 6) [] 0 (by omega) (by omega)).ne
  rw [show polP Ts (5 * Ts.length + 6) [] 0 = parseP Ts from rfl] at HP
  go_wp2_with (fail)
  refine HP.out.mono ?_
  intro e w6 hp
  have n23' := n23
  cases hxa : parseP Ts with
  | out => exact absurd hxa HNE.out
  | bad e0 p =>
    rw [hxa] at hp HPQ
    obtain ⟨he, k6⟩ := hp
    unfold pan at he
    subst he
    have E2 := hide ((k6.block p2 (lt_of_block D2.out) HRP.out.2.1).trans D2.out)
    have E3 := hide ((k6.block p3 (lt_of_block D3.out) HRP.out.2.2.1).trans D3.out)
    have E4 := hide ((k6.block p4 (lt_of_block D4.out) HRP.out.2.2.2).trans D4.out)
    have X6 : Hid (Below w.heap.size w w6) := Kept.low X5.out k6 (fun k hk => by have := HRP.out.1; rw [hk]; exact this)
    clear k6 D2 D3 D4 X5 HP R5
    refine leaves_cons (f := 27) (args := #[.pointer (some ⟨p2, 0, none⟩), .pointer (some ⟨p3, 0, none⟩), .pointer (some ⟨p4, 0, none⟩)]) (by simp) (by simp [go_sem]) ?_
    refine (pcatch_bad e0 p [] E2.out E3.out E4.out).mono ?_
    rintro e u' w7 ⟨rfl, rfl, h2, h3, h4, k7⟩
    have g2 : w7.cell? ⟨p2, 0, none⟩ = some (.slice none 0 0) := by rw [cell_of_row _ _ _ _ _ _ h2]; rfl
    have g3 : w7.cell? ⟨p3, 0, none⟩ = some (.int .i64 e0) := by rw [cell_of_row _ _ _ _ _ _ h3]; rfl
    have g4 : w7.cell? ⟨p4, 0, none⟩ = some (.int .i64 p) := by rw [cell_of_row _ _ _ _ _ _ h4]; rfl
    have X7 : Below w.heap.size w w7 := Kept.low X6.out k7 (fun k hk => by have := HSZ.out; rcases hk with e | e | e <;> omega)
    simp only [settle]
    exact ⟨.tuple #[.agg #[.slice none 0 0], .int .i64 e0, .int .i64 p], by simp [results, Tryz.results11, go_sem, g2, g3, g4], ParP.err HPQ.out rfl, X7⟩
  | ok L j =>
    rw [hxa] at hp HPQ
    obtain ⟨⟨v, cs, bs, rfl, hpo⟩, k6⟩ := hp
    obtain ⟨a6, c6, hv, _⟩ := own_shape hpo.row
    subst hv
    have E2 := hide ((k6.block p2 (lt_of_block D2.out) HRP.out.2.1).trans D2.out)
    have E3 := hide ((k6.block p3 (lt_of_block D3.out) HRP.out.2.2.1).trans D3.out)
    have E4 := hide ((k6.block p4 (lt_of_block D4.out) HRP.out.2.2.2).trans D4.out)
    have X6 : Hid (Below w.heap.size w w6) := Kept.low X5.out k6 (fun k hk => by have := HRP.out.1; rw [hk]; exact this)
    have O6 := hide hpo
    have HW5 : Hid (p2 < w5.heap.size ∧ p3 < w5.heap.size ∧ p4 < w5.heap.size) := ⟨lt_of_block D2.out, lt_of_block D3.out, lt_of_block D4.out⟩
    clear k6 D2 D3 D4 X5 HP R5 hpo hxa
    have ks : ∀ (V : World) (b : Nat) (u : Value), Kept (fun k => k = b) V (V.setCell ⟨b, 0, none⟩ u) := fun V b u => Kept.setCell (F := fun k => k = b) (p := ⟨b, 0, none⟩) (Kept.refl _ _) rfl u
    have c2 : w6.cell? ⟨p2, 0, none⟩ = some (.slice none 0 0) := by rw [cell_of_row _ _ _ _ _ _ E2.out]; rfl
    have f2 := frozen_of_row w6 p2 0 _ _ E2.out
    have k2 := ks w6 p2 (.slice a6 L.length c6)
    have F2 : Hid ((w6.setCell ⟨p2, 0, none⟩ (.slice a6 L.length c6)).heap[p2]? = some (.cells #[.slice a6 L.length c6] 36 (0, 0))) := by
      have := block_setCell' E2.out 0 (.slice a6 L.length c6)
      simpa [Hid] using this
    have F3 := hide ((k2.block p3 (lt_of_block E3.out) n23.1.symm).trans E3.out)
    have F4 := hide ((k2.block p4 (lt_of_block E4.out) n23.2.symm).trans E4.out)
    obtain ⟨w7, hw7⟩ : ∃ w7, w7 = w6.setCell ⟨p2, 0, none⟩ (.slice a6 L.length c6) := ⟨_, rfl⟩
    rw [← hw7] at F2 F3 F4 k2
    have c3 : w7.cell? ⟨p3, 0, none⟩ = some (.int .i64 0) := by rw [cell_of_row _ _ _ _ _ _ F3.out]; rfl
    have f3 := frozen_of_row w7 p3 0 _ _ F3.out
    have k3 := ks w7 p3 (.int .i64 0)
    have G3 : Hid ((w7.setCell ⟨p3, 0, none⟩ (.int .i64 0)).heap[p3]? = some (.cells #[.int .i64 0] 37 (0, 0))) := by
      have := block_setCell' F3.out 0 (.int .i64 0)
      simpa [Hid] using this
    have G2 := hide ((k3.block p2 (lt_of_block F2.out) n23.1).trans F2.out)
    have G4 := hide ((k3.block p4 (lt_of_block F4.out) n42).trans F4.out)
    obtain ⟨w8, hw8⟩ : ∃ w8, w8 = w7.setCell ⟨p3, 0, none⟩ (.int .i64 0) := ⟨_, rfl⟩
    rw [← hw8] at G2 G3 G4 k3
    have c4 : w8.cell? ⟨p4, 0, none⟩ = some (.int .i64 0) := by rw [cell_of_row _ _ _ _ _ _ G4.out]; rfl
    have f4 := frozen_of_row w8 p4 0 _ _ G4.out
    have k4 := ks w8 p4 (.int .i64 0)
    have I4 : Hid ((w8.setCell ⟨p4, 0, none⟩ (.int .i64 0)).heap[p4]? = some (.cells #[.int .i64 0] 3 (0, 0))) := by
      have := block_setCell' G4.out 0 (.int .i64 0)
      simpa [Hid] using this
    have I2 := hide ((k4.block p2 (lt_of_block G2.out) n23.2).trans G2.out)
    have I3 := hide ((k4.block p3 (lt_of_block G3.out) n42.symm).trans G3.out)
    obtain ⟨w9, hw9⟩ : ∃ w9, w9 = w8.setCell ⟨p4, 0, none⟩ (.int .i64 0) := ⟨_, rfl⟩
    rw [← hw9] at I2 I3 I4 k4
    have K9 : Hid (Kept (fun k => k = p2 ∨ k = p3 ∨ k = p4) w6 w9) := ((k2.mono (fun _ h => .inl h)).trans (k3.mono (fun _ h => .inr (.inl h)))).trans (k4.mono (fun _ h => .inr (.inr h)))
    rw [hw7] at c3 f3
    rw [hw8, hw7] at c4 f4
    rw [hw8, hw7] at hw9
    clear hw8 hw7 k2 k3 k4 E2 E3 E4 F2 F3 F4 G2 G3 G4
    have X9 : Hid (Below w.heap.size w w9) := Kept.low X6.out K9.out (fun k hk => by have := HSZ.out; rcases hk with e | e | e <;> omega)
    have O9 : Hid (PolA w9 w5.heap.size L (.slice a6 L.length c6) cs bs) := O6.out.frame K9.out (fun k hk => by have := HW5.out; rcases hk with e | e | e <;> omega)
    go_wp2
    rw [← hw9]
    clear hw9 c2 f2 c3 f3 c4 f4
    have HP2 := hide (pcatch_idle p2 p3 p4 w9)
    refine leaves_cons (f := 27) (args := #[.pointer (some ⟨p2, 0, none⟩), .pointer (some ⟨p3, 0, none⟩), .pointer (some ⟨p4, 0, none⟩)]) (by simp) (by simp [go_sem]) ?_
    refine HP2.out.mono ?_
    rintro e u' wz ⟨rfl, rfl, xz⟩
    have g2 : wz.cell? ⟨p2, 0, none⟩ = some (.slice a6 L.length c6) := by rw [cell_of_row _ _ _ _ _ _ ((xz.block p2 (lt_of_block I2.out)).trans I2.out)]; rfl
    have g3 : wz.cell? ⟨p3, 0, none⟩ = some (.int .i64 0) := by rw [cell_of_row _ _ _ _ _ _ ((xz.block p3 (lt_of_block I3.out)).trans I3.out)]; rfl
    have g4 : wz.cell? ⟨p4, 0, none⟩ = some (.int .i64 0) := by rw [cell_of_row _ _ _ _ _ _ ((xz.block p4 (lt_of_block I4.out)).trans I4.out)]; rfl
    simp only [settle, Leaves]
    exact ⟨.tuple #[.agg #[.slice a6 L.length c6], .int .i64 0, .int .i64 0], by simp [results, Tryz.results11, go_sem, g2, g3, g4], ParP.okI HPQ.out rfl ((O9.out.below xz).mono (by have := HW5.out; have := HSZ.out; omega)), bt X9.out xz (Nat.le_refl _)⟩
theorem parse_any (s : By) (w : World) (hev : ErrV w.heap.size w) : Calls Tryz.prog 11 #[.string ⟨s.toArray⟩] w fun e w' => ParP s w.heap.size e w' ∧ Below w.heap.size w w' := by
  cases h : scanQ s with
  | error x => exact parse_scanned (c := x.1) (q := x.2) h w hev
  | ok Ts => exact parse_read h w hev
end Go.Proofs.YtlmhofjiobmodaaGreatDoor
