/-
  request.Right of the request of awake, by contract. No condition.
-/
import Derived.Test.YthgikaklcglpiaaGreatDoorP41
import Derived.Test.YthgikaklcglpiaaGreatDoorP16
import Derived.Test.YthgikaklcglpiaaGreatDoorP29
import Derived.Test.YthgikaklcglpiaaGreatDoorP25
namespace Go.Proofs.YthgikaklcglpiaaGreatDoor.L9
open Go.RowKit Go.Lib

set_option maxRecDepth 100000 in
theorem rcatch_idle (p2 : Nat) (w : World) :
    CallsD Tryz.prog 56 #[.pointer (some ⟨p2, 0, none⟩)] .returning w fun e u' w' => e = .returned (.tuple #[]) ∧ u' = .returning ∧ Below w.heap.size w w' := by
  refine callsD_of_wpS Tryz.func56 rfl fun c₀ cs hu => ?_
  apply wpS_seq
  apply wpS_region
  simp [wpOpsS, go_sem, recoverD, hu, Tryz.ntmps56, Exit.thenS]
  have hrep : Array.replicate 2 undef = #[undef, undef] := rfl
  simp only [hrep, List.setIfInBounds_toArray, List.set_cons_zero, List.set_cons_succ, List.append_toArray, List.cons_append, List.nil_append]
  clear hrep
  refine wpS_of_wp ?_
  go_wp2
  cases c₀
  simp_all [bodyPostS, results, Tryz.results56]
  exact Below.refl _ _
set_option maxRecDepth 100000 in
set_option maxHeartbeats 2000000 in
theorem reqRight (w : World) : Calls Tryz.prog 31 #[.agg #[.string ⟨#[71, 69, 84]⟩, .string ⟨#[47]⟩, .int .i64 0, .int .i64 85, .slice none 0 0]] w fun e w' => e = .returned (.bool true) ∧ Below w.heap.size w w' := by
  have hmf : ∀ (fn : Fn) (first cap : Array Value) (w : World), (Instr.makeFunc fn first cap).run Tryz.prog w = .ok (.func fn first cap) w := fun _ _ _ _ => rfl
  obtain ⟨p1, hp1⟩ : ∃ p, p = w.heap.size := ⟨_, rfl⟩
  obtain ⟨p2, hp2⟩ : ∃ p, p = w.heap.size + 1 := ⟨_, rfl⟩
  obtain ⟨W, hW⟩ : ∃ W, W = (w.alloc (.cells #[.string ⟨#[71, 69, 84]⟩, .string ⟨#[47]⟩, .int .i64 0, .int .i64 85, .slice none 0 0] 52)).alloc (.cells #[.bool false] 4) := ⟨_, rfl⟩
  have X0 := hide (show Below w.heap.size w W by rw [hW]; exact al (al (Below.refl _ _) _) _)
  have A1 := hide (show W.heap[p1]? = some (.cells #[.string ⟨#[71, 69, 84]⟩, .string ⟨#[47]⟩, .int .i64 0, .int .i64 85, .slice none 0 0] 52 (0, 0)) by
    rw [hW, hp1]
    exact (heap_alloc_old _ _ (by simp)).trans (heap_alloc_new w _))
  have A2 := hide (show W.heap[p2]? = some (.cells #[.bool false] 4 (0, 0)) by
    rw [hW, hp2, show w.heap.size + 1 = (w.alloc (.cells #[.string ⟨#[71, 69, 84]⟩, .string ⟨#[47]⟩, .int .i64 0, .int .i64 85, .slice none 0 0] 52)).heap.size by simp]
    exact heap_alloc_new _ _)
  have HSZ : Hid (p2 = w.heap.size + 1) := hp2
  have HC := hide (rbeRight W)
  have q0 : W.cell? ⟨p1, 0, none⟩ = some (.string ⟨#[71, 69, 84]⟩) := by rw [cell_of_row _ _ _ _ _ _ A1.out]; rfl
  have q1 : W.cell? ⟨p1, 1, none⟩ = some (.string ⟨#[47]⟩) := by rw [cell_of_row _ _ _ _ _ _ A1.out]; rfl
  have q2 : W.cell? ⟨p1, 2, none⟩ = some (.int .i64 0) := by rw [cell_of_row _ _ _ _ _ _ A1.out]; rfl
  have q3 : W.cell? ⟨p1, 3, none⟩ = some (.int .i64 85) := by rw [cell_of_row _ _ _ _ _ _ A1.out]; rfl
  have q4 : W.cell? ⟨p1, 4, none⟩ = some (.slice none 0 0) := by rw [cell_of_row _ _ _ _ _ _ A1.out]; rfl
  go_enter_defers Tryz.func31, Tryz.ntmps31
  go_upto_region 1 with fail
  rw [← hp2, ← hW, ← hp1]
  clear hW hp1 hp2
  go_upto_region 2 with fail
  go_wp2_with (fail)
  refine HC.out.mono ?_
  rintro e w6 ⟨rfl, x6⟩
  have X6 := hide (bt X0.out x6 (Nat.le_refl _))
  have E2 := hide ((x6.block p2 (lt_of_block A2.out)).trans A2.out)
  clear x6 A1 A2 X0 HC q0 q1 q2 q3 q4
  have c2 : w6.cell? ⟨p2, 0, none⟩ = some (.bool false) := by rw [cell_of_row _ _ _ _ _ _ E2.out]; rfl
  have f2 := frozen_of_row w6 p2 0 _ _ E2.out
  have k2 : Kept (fun k => k = p2) w6 (w6.setCell ⟨p2, 0, none⟩ (.bool true)) := Kept.setCell (F := fun k => k = p2) (p := ⟨p2, 0, none⟩) (Kept.refl _ _) rfl (.bool true)
  have F2 : Hid ((w6.setCell ⟨p2, 0, none⟩ (.bool true)).heap[p2]? = some (.cells #[.bool true] 4 (0, 0))) := by
    have := block_setCell' E2.out 0 (.bool true)
    simpa [Hid] using this
  have X7 : Hid (Below w.heap.size w (w6.setCell ⟨p2, 0, none⟩ (.bool true))) := Kept.low X6.out k2 (fun k hk => by have := HSZ.out; have hk : k = p2 := hk; omega)
  clear k2 E2 X6
  go_wp2
  clear c2 f2
  generalize w6.setCell ⟨p2, 0, none⟩ (.bool true) = w8 at *
  refine leaves_cons (f := 56) (args := #[.pointer (some ⟨p2, 0, none⟩)]) (by simp) (by simp [go_sem]) ?_
  refine (rcatch_idle p2 w8).mono ?_
  rintro e u' w9 ⟨rfl, rfl, x9⟩
  have g2 : w9.cell? ⟨p2, 0, none⟩ = some (.bool true) := by rw [cell_of_row _ _ _ _ _ _ ((x9.block p2 (lt_of_block F2.out)).trans F2.out)]; rfl
  simp only [settle]
  exact ⟨.bool true, by simp [results, Tryz.results31, go_sem, g2], rfl, bt X7.out x9 (Nat.le_refl _)⟩
end Go.Proofs.YthgikaklcglpiaaGreatDoor.L9
/-
  Test, of a right test that the request of awake passes, by contract. Condition: as in the texts before.
-/
namespace Go.Proofs.YthgikaklcglpiaaGreatDoor.L9
open Go.RowKit Go.Lib

theorem _root_.Go.RowKit.Below.cell_of {w w' : World} {p : Addr} {v : Value} (h : Below w.heap.size w w') (hc : w.cell? p = some v) : w'.cell? p = some v := by
  have hlt : p.block < w.heap.size := by
    unfold World.cell? at hc
    by_cases hl : p.block < w.heap.size
    · exact hl
    · rw [Array.getElem?_eq_none (by omega)] at hc
      simp at hc
  unfold World.cell? at hc ⊢
  rw [h.block _ hlt]
  exact hc

set_option maxRecDepth 100000 in
set_option maxHeartbeats 2000000 in
theorem hasPort_any (P : Nat) (a : L5.AD) (w : World) (hP : L5.TBx w P a) (ha : L5.AtW w a) :
    Calls Tryz.prog 78 #[.pointer (some ⟨P, 0, none⟩), .agg #[.string ⟨#[71, 69, 84]⟩, .string ⟨#[47]⟩, .int .i64 0, .int .i64 85, .slice none 0 0]] w fun e w' => e = .returned (.bool (L5.hasL a.sp 85)) ∧ Below w.heap.size w w' := by
  obtain ⟨W, hW⟩ : ∃ W, W = w.alloc (.cells #[.string ⟨#[71, 69, 84]⟩, .string ⟨#[47]⟩, .int .i64 0, .int .i64 85, .slice none 0 0] 52) := ⟨_, rfl⟩
  have XW := hide (show Below w.heap.size w W by rw [hW]; exact al (Below.refl _ _) _)
  have B0 := hide (show W.heap[w.heap.size]? = some (.cells #[.string ⟨#[71, 69, 84]⟩, .string ⟨#[47]⟩, .int .i64 0, .int .i64 85, .slice none 0 0] 52 (0, 0)) by rw [hW]; exact heap_alloc_new w _)
  obtain ⟨Q, hQ⟩ : ∃ Q, Q = w.heap.size := ⟨_, rfl⟩
  have HP1 := hide (L5.TBx.below hP XW.out)
  have HA1 := hide (ha.below XW.out)
  clear hP ha
  go_enter Tryz.func78, Tryz.ntmps78
  go_upto_region 1 with fail
  rw [← hW, ← hQ]
  rw [← hQ] at B0
  clear hW hQ
  have XD : Hid (Below W.heap.size W W.drew) := (Below.refl _ _).drew
  have B1 := hide ((XD.out.block Q (lt_of_block B0.out)).trans B0.out)
  have X1 := hide (bt XW.out XD.out (Nat.le_refl _))
  have HP2 := hide (L5.TBx.below HP1.out XD.out)
  have HA2 := hide (HA1.out.below XD.out)
  refine wp_unt (S := fun V => V.cell? ⟨P, 2, none⟩ = some (.slice a.so a.sp.length a.sc) ∧ V.cell? ⟨Q, 3, none⟩ = some (.int .i64 85)) 8 (by kernel_rfl) ?_
  have HS0 : Hid (W.drew.cell? ⟨P, 2, none⟩ = some (.slice a.so a.sp.length a.sc) ∧ W.drew.cell? ⟨Q, 3, none⟩ = some (.int .i64 85)) := ⟨by rw [cell_of_row _ _ _ _ _ _ HP2.out]; rfl, by rw [cell_of_row _ _ _ _ _ _ B1.out]; rfl⟩
  clear XD B0 XW HP1 HA1 B1
  generalize W.drew = V at *
  have HXX := hide X1.out.size
  have HC := hide (L5.has_any a.so a.sc a.sp 85 V HA2.out.lsp HA2.out.sp)
  refine UntH.take (i := 0) (some 5) rfl rfl (by kernel_rfl) (by kernel_rfl) (by kernel_rfl) (by kernel_rfl) (fun _ _ _ _ h => h) (by rfl) HS0.out ?_
  apply Exists.intro
  refine ⟨fun w' hw' => ?_, ?_⟩
  · obtain ⟨q1, q2⟩ := hw'
    go_simp
    first | done | rfl
  try simp only [Act.put, List.setIfInBounds_toArray, List.set_cons_zero, List.set_cons_succ]
  refine UntH.take (i := 1) (some 6) rfl rfl (by kernel_rfl) (by kernel_rfl) (by kernel_rfl) (by kernel_rfl) (fun _ _ _ _ h => h) (by rfl) HS0.out ?_
  apply Exists.intro
  refine ⟨fun w' hw' => ?_, ?_⟩
  · obtain ⟨q1, q2⟩ := hw'
    go_simp
    first | done | rfl
  try simp only [Act.put, List.setIfInBounds_toArray, List.set_cons_zero, List.set_cons_succ]
  refine UntH.take (i := 2) (some 7) rfl rfl (by kernel_rfl) (by kernel_rfl) (by kernel_rfl) (by kernel_rfl) (fun _ _ _ _ h => h) (by rfl) HS0.out ?_
  apply Exists.intro
  refine ⟨fun w' hw' => ?_, ?_⟩
  · obtain ⟨q1, q2⟩ := hw'
    go_simp
    first | done | rfl
  try simp only [Act.put, List.setIfInBounds_toArray, List.set_cons_zero, List.set_cons_succ]
  refine UntH.take (i := 3) (some 8) rfl rfl (by kernel_rfl) (by kernel_rfl) (by kernel_rfl) (by kernel_rfl) (fun _ _ _ _ h => h) (by rfl) HS0.out ?_
  apply Exists.intro
  refine ⟨fun w' hw' => ?_, ?_⟩
  · obtain ⟨q1, q2⟩ := hw'
    go_simp
    first | done | rfl
  try simp only [Act.put, List.setIfInBounds_toArray, List.set_cons_zero, List.set_cons_succ]
  refine UntH.take (i := 4) (some 9) rfl rfl (by kernel_rfl) (by kernel_rfl) (by kernel_rfl) (by kernel_rfl) (fun _ _ _ _ h => h) (by rfl) HS0.out ?_
  apply Exists.intro
  refine ⟨fun w' hw' => ?_, ?_⟩
  · obtain ⟨q1, q2⟩ := hw'
    go_simp
    first | done | rfl
  try simp only [Act.put, List.setIfInBounds_toArray, List.set_cons_zero, List.set_cons_succ]
  refine UntH.take (i := 5) (some 10) rfl rfl (by kernel_rfl) (by kernel_rfl) (by kernel_rfl) (by kernel_rfl) (fun _ _ _ _ h => h) (by rfl) HS0.out ?_
  apply Exists.intro
  refine ⟨fun w' hw' => ?_, ?_⟩
  · obtain ⟨q1, q2⟩ := hw'
    go_simp
    first | done | rfl
  try simp only [Act.put, List.setIfInBounds_toArray, List.set_cons_zero, List.set_cons_succ]
  refine UntH.take (i := 6) (some 11) rfl rfl (by kernel_rfl) (by kernel_rfl) (by kernel_rfl) (by kernel_rfl) (fun _ _ _ _ h => h) (by rfl) HS0.out ?_
  apply Exists.intro
  refine ⟨fun w' hw' => ?_, ?_⟩
  · obtain ⟨q1, q2⟩ := hw'
    go_simp
    first | done | rfl
  try simp only [Act.put, List.setIfInBounds_toArray, List.set_cons_zero, List.set_cons_succ]
  have HSF : Hid (∀ U, Below V.heap.size V U → U.cell? ⟨P, 2, none⟩ = some (.slice a.so a.sp.length a.sc) ∧ U.cell? ⟨Q, 3, none⟩ = some (.int .i64 85)) := fun U hU => ⟨(hU.cell_of HS0.out.1), (hU.cell_of HS0.out.2)⟩
  refine UntH.step (i := 7) (by kernel_rfl) rfl (fun K hK => ?_)
  go_simp
  refine HC.out.mono ?_
  rintro e w2 ⟨rfl, x2⟩
  have HS2 := hide (HSF.out _ x2)
  have X2 := hide (bt X1.out x2 (Nat.le_refl _))
  refine hK _ _ HS2.out ?_
  clear hK K x2 X1 HS0 HC
  try simp only [Act.put, List.setIfInBounds_toArray, List.set_cons_zero, List.set_cons_succ]
  refine UntH.last (by kernel_rfl) rfl (by kernel_rfl) (by kernel_rfl) (fun K hK => ?_)
  go_simp
  refine hK _ _ ?_
  clear hK K
  go_wp2
  go_ret
  exact ⟨rfl, X2.out⟩


set_option maxRecDepth 100000 in
set_option maxHeartbeats 2000000 in
theorem hasMethod_any (P : Nat) (a : L5.AD) (w : World) (hP : L5.TBx w P a) (ha : L5.AtW w a) (hns : a.ns = [[71, 69, 84], [80, 85, 84]]) :
    Calls Tryz.prog 80 #[.pointer (some ⟨P, 0, none⟩), .agg #[.string ⟨#[71, 69, 84]⟩, .string ⟨#[47]⟩, .int .i64 0, .int .i64 85, .slice none 0 0]] w fun e w' => e = .returned (.bool true) ∧ Below w.heap.size w w' := by
  obtain ⟨W, hW⟩ : ∃ W, W = w.alloc (.cells #[.string ⟨#[71, 69, 84]⟩, .string ⟨#[47]⟩, .int .i64 0, .int .i64 85, .slice none 0 0] 52) := ⟨_, rfl⟩
  have XW := hide (show Below w.heap.size w W by rw [hW]; exact al (Below.refl _ _) _)
  have B0 := hide (show W.heap[w.heap.size]? = some (.cells #[.string ⟨#[71, 69, 84]⟩, .string ⟨#[47]⟩, .int .i64 0, .int .i64 85, .slice none 0 0] 52 (0, 0)) by rw [hW]; exact heap_alloc_new w _)
  obtain ⟨Q, hQ⟩ : ∃ Q, Q = w.heap.size := ⟨_, rfl⟩
  have HP1 := hide (L5.TBx.below hP XW.out)
  have HA1 := hide (ha.below XW.out)
  clear hP ha
  go_enter Tryz.func80, Tryz.ntmps80
  go_upto_region 1 with fail
  rw [← hW, ← hQ]
  rw [← hQ] at B0
  clear hW hQ
  have XD : Hid (Below W.heap.size W W.drew) := (Below.refl _ _).drew
  have B1 := hide ((XD.out.block Q (lt_of_block B0.out)).trans B0.out)
  have X1 := hide (bt XW.out XD.out (Nat.le_refl _))
  have HP2 := hide (L5.TBx.below HP1.out XD.out)
  have HA2 := hide (HA1.out.below XD.out)
  refine wp_unt (S := fun V => V.cell? ⟨P, 3, none⟩ = some (.slice a.no a.ns.length a.nc) ∧ V.cell? ⟨Q, 0, none⟩ = some (.string ⟨#[71, 69, 84]⟩)) 8 (by kernel_rfl) ?_
  have HS0 : Hid (W.drew.cell? ⟨P, 3, none⟩ = some (.slice a.no a.ns.length a.nc) ∧ W.drew.cell? ⟨Q, 0, none⟩ = some (.string ⟨#[71, 69, 84]⟩)) := ⟨by rw [cell_of_row _ _ _ _ _ _ HP2.out]; rfl, by rw [cell_of_row _ _ _ _ _ _ B1.out]; rfl⟩
  clear XD B0 XW HP1 HA1 B1
  generalize W.drew = V at *
  have HXX := hide X1.out.size
  obtain ⟨b, off, hno, _, hcl⟩ := HA2.out.ns.get (i := 0) (by rw [hns]; decide)
  rw [hno] at HS0 ⊢
  have HC : Hid (Calls Tryz.prog 132 #[.slice (some ⟨b, off, none⟩) a.ns.length a.nc, .string ⟨#[71, 69, 84]⟩] V fun e w' => e = .returned (.bool true) ∧ Below V.heap.size V w') := by
    have := Tryz.slices_Contains_string b off a.ns.length a.nc (a.ns.map fun l => ⟨l.toArray⟩) ⟨#[71, 69, 84]⟩ V (by simp) (by rw [hns]; decide) (fun j hj => by
      have hj' : j < a.ns.length := by simpa using hj
      rw [hcl j hj']
      simp [List.getD_eq_getElem?_getD, hj'])
    refine this.mono ?_
    rintro e w2 ⟨rfl, rfl⟩
    refine ⟨?_, Below.refl _ _⟩
    rw [hns]
    first | rfl | decide
  clear hcl hns
  refine UntH.take (i := 0) (some 5) rfl rfl (by kernel_rfl) (by kernel_rfl) (by kernel_rfl) (by kernel_rfl) (fun _ _ _ _ h => h) (by rfl) HS0.out ?_
  apply Exists.intro
  refine ⟨fun w' hw' => ?_, ?_⟩
  · obtain ⟨q1, q2⟩ := hw'
    go_simp
    first | done | rfl
  try simp only [Act.put, List.setIfInBounds_toArray, List.set_cons_zero, List.set_cons_succ]
  refine UntH.take (i := 1) (some 6) rfl rfl (by kernel_rfl) (by kernel_rfl) (by kernel_rfl) (by kernel_rfl) (fun _ _ _ _ h => h) (by rfl) HS0.out ?_
  apply Exists.intro
  refine ⟨fun w' hw' => ?_, ?_⟩
  · obtain ⟨q1, q2⟩ := hw'
    go_simp
    first | done | rfl
  try simp only [Act.put, List.setIfInBounds_toArray, List.set_cons_zero, List.set_cons_succ]
  refine UntH.take (i := 2) (some 7) rfl rfl (by kernel_rfl) (by kernel_rfl) (by kernel_rfl) (by kernel_rfl) (fun _ _ _ _ h => h) (by rfl) HS0.out ?_
  apply Exists.intro
  refine ⟨fun w' hw' => ?_, ?_⟩
  · obtain ⟨q1, q2⟩ := hw'
    go_simp
    first | done | rfl
  try simp only [Act.put, List.setIfInBounds_toArray, List.set_cons_zero, List.set_cons_succ]
  refine UntH.take (i := 3) (some 8) rfl rfl (by kernel_rfl) (by kernel_rfl) (by kernel_rfl) (by kernel_rfl) (fun _ _ _ _ h => h) (by rfl) HS0.out ?_
  apply Exists.intro
  refine ⟨fun w' hw' => ?_, ?_⟩
  · obtain ⟨q1, q2⟩ := hw'
    go_simp
    first | done | rfl
  try simp only [Act.put, List.setIfInBounds_toArray, List.set_cons_zero, List.set_cons_succ]
  refine UntH.take (i := 4) (some 9) rfl rfl (by kernel_rfl) (by kernel_rfl) (by kernel_rfl) (by kernel_rfl) (fun _ _ _ _ h => h) (by rfl) HS0.out ?_
  apply Exists.intro
  refine ⟨fun w' hw' => ?_, ?_⟩
  · obtain ⟨q1, q2⟩ := hw'
    go_simp
    first | done | rfl
  try simp only [Act.put, List.setIfInBounds_toArray, List.set_cons_zero, List.set_cons_succ]
  refine UntH.take (i := 5) (some 10) rfl rfl (by kernel_rfl) (by kernel_rfl) (by kernel_rfl) (by kernel_rfl) (fun _ _ _ _ h => h) (by rfl) HS0.out ?_
  apply Exists.intro
  refine ⟨fun w' hw' => ?_, ?_⟩
  · obtain ⟨q1, q2⟩ := hw'
    go_simp
    first | done | rfl
  try simp only [Act.put, List.setIfInBounds_toArray, List.set_cons_zero, List.set_cons_succ]
  refine UntH.take (i := 6) (some 11) rfl rfl (by kernel_rfl) (by kernel_rfl) (by kernel_rfl) (by kernel_rfl) (fun _ _ _ _ h => h) (by rfl) HS0.out ?_
  apply Exists.intro
  refine ⟨fun w' hw' => ?_, ?_⟩
  · obtain ⟨q1, q2⟩ := hw'
    go_simp
    first | done | rfl
  try simp only [Act.put, List.setIfInBounds_toArray, List.set_cons_zero, List.set_cons_succ]
  have HSF : Hid (∀ U, Below V.heap.size V U → U.cell? ⟨P, 3, none⟩ = some (.slice (some ⟨b, off, none⟩) a.ns.length a.nc) ∧ U.cell? ⟨Q, 0, none⟩ = some (.string ⟨#[71, 69, 84]⟩)) := fun U hU => ⟨(hU.cell_of HS0.out.1), (hU.cell_of HS0.out.2)⟩
  refine UntH.step (i := 7) (by kernel_rfl) rfl (fun K hK => ?_)
  go_simp
  refine HC.out.mono ?_
  rintro e w2 ⟨rfl, x2⟩
  have HS2 := hide (HSF.out _ x2)
  have X2 := hide (bt X1.out x2 (Nat.le_refl _))
  refine hK _ _ HS2.out ?_
  clear hK K x2 X1 HS0 HC
  try simp only [Act.put, List.setIfInBounds_toArray, List.set_cons_zero, List.set_cons_succ]
  refine UntH.last (by kernel_rfl) rfl (by kernel_rfl) (by kernel_rfl) (fun K hK => ?_)
  go_simp
  refine hK _ _ ?_
  clear hK K
  go_wp2
  go_ret
  exact ⟨rfl, X2.out⟩

set_option maxRecDepth 100000 in
set_option maxHeartbeats 4000000 in
theorem test_yes (a : L5.AD) (w : World) (ha : L5.AtW w a) (k : Nat) (h7 : 7 ≤ k) (h12 : k ≤ 12) (hk : a.k = (k : Int)) (hr : L5.rgP a k) (kb : Nat) (hkb : 62 + 2 * k = kb) (hent2 : ∀ (args : Array Value) (w : World), (callFunc kb args).run Tryz.prog w = .ok (.enter kb args) w)
    (hpass : ∀ (V : World) (P : Nat), L5.TBx V P a → L5.AtW V a → Calls Tryz.prog kb #[.pointer (some ⟨P, 0, none⟩), .agg #[.string ⟨#[71, 69, 84]⟩, .string ⟨#[47]⟩, .int .i64 0, .int .i64 85, .slice none 0 0]] V fun e w' => e = .returned (.bool true) ∧ Below V.heap.size V w') :
    Calls Tryz.prog 24 #[.agg a.cells, .agg #[.string ⟨#[71, 69, 84]⟩, .string ⟨#[47]⟩, .int .i64 0, .int .i64 85, .slice none 0 0]] w fun e w' => e = .returned (.tuple #[.bool true, .int .i64 0]) ∧ Below w.heap.size w w' := by
  obtain ⟨W, hW⟩ : ∃ W, W = (w.alloc (.cells a.cells 35)).alloc (.cells #[.string ⟨#[71, 69, 84]⟩, .string ⟨#[47]⟩, .int .i64 0, .int .i64 85, .slice none 0 0] 52) := ⟨_, rfl⟩
  have X0 := hide (show Below w.heap.size w W by rw [hW]; exact al (al (Below.refl _ _) _) _)
  have B35 := hide (show W.heap[w.heap.size]? = some (.cells a.cells 35 (0, 0)) by rw [hW]; exact (heap_alloc_old _ _ (by simp)).trans (heap_alloc_new w _))
  have B52 := hide (show W.heap[w.heap.size + 1]? = some (.cells #[.string ⟨#[71, 69, 84]⟩, .string ⟨#[47]⟩, .int .i64 0, .int .i64 85, .slice none 0 0] 52 (0, 0)) by rw [hW, show w.heap.size + 1 = (w.alloc (.cells a.cells 35)).heap.size by simp]; exact heap_alloc_new _ _)
  have HSW : Hid (W.heap.size = w.heap.size + 1 + 1) := by unfold Hid; rw [hW]; simp
  have hc : a.cells = #[.int .i64 a.k, .string ⟨a.nm.toArray⟩, .slice a.so a.sp.length a.sc, .slice a.no a.ns.length a.nc, .slice a.po a.D.length a.pc] := rfl
  have HA := hide ha
  have HPS := hide hpass
  have HRP := hide hr
  have hent := L5.enters_m k h7 h12
  have HKG := hide (fun (V : World) (P : Nat) (h : L5.TBx V P a) => L5.kind_ok P a V h k h7 h12 hk)
  have HMA := hide (fun (V : World) (P : Nat) (h : L5.TBx V P a) (h2 : L5.AtW V a) => L5.method_any k h7 h12 P a V h h2)
  rw [hkb] at HKG
  clear ha hpass hr hk hkb
  generalize 61 + 2 * k = ka at *
  rw [hc] at hW B35 ⊢
  obtain ⟨p1, hp1⟩ : ∃ p, p = w.heap.size := ⟨_, rfl⟩
  obtain ⟨p2, hp2⟩ : ∃ p, p = w.heap.size + 1 := ⟨_, rfl⟩
  obtain ⟨P, hP⟩ : ∃ p, p = w.heap.size + 1 + 1 := ⟨_, rfl⟩
  go_enter Tryz.func24, Tryz.ntmps24
  go_upto_region 1 with fail
  rw [← hp2, ← hW, ← hp1]
  rw [← hp1] at B35
  rw [← hp2] at B52
  rw [← hP] at HSW
  clear hp1 hp2 hP hW
  obtain ⟨t0, t1, t2, t3, t4⟩ := L5.five_of B35.out
  have XP := hide (show Below W.heap.size W (W.alloc (.cells #[.int .i64 a.k, .string ⟨a.nm.toArray⟩, .slice a.so a.sp.length a.sc, .slice a.no a.ns.length a.nc, .slice a.po a.D.length a.pc] 92)) from al (Below.refl _ _) _)
  have BP : Hid (L5.TBx (W.alloc (.cells #[.int .i64 a.k, .string ⟨a.nm.toArray⟩, .slice a.so a.sp.length a.sc, .slice a.no a.ns.length a.nc, .slice a.po a.D.length a.pc] 92)) P a) := by
    unfold Hid L5.TBx
    rw [← HSW.out]
    exact heap_alloc_new _ _
  have B52b := hide ((XP.out.block p2 (lt_of_block B52.out)).trans B52.out)
  have X1 := hide (bt X0.out XP.out (Nat.le_refl _))
  have HKK := hide (HKG.out _ P BP.out)
  have hsw := HSW.out
  go_upto_region 2 with (go_at_call 42; refine HKK.out.mono ?_; rintro e w1 ⟨rfl, x1⟩; have X3 := hide (bt X1.out x1 (Nat.le_refl _)); have B3 := hide (BP.out.below x1); have B523 := hide ((x1.block p2 (lt_of_block B52b.out)).trans B52b.out); clear x1)
  clear t0 t1 t2 t3 t4 HKK hc hsw X1 XP B52b BP B52 B35 X0
  have XK := hide (show Below w1.heap.size w1 (w1.alloc (.cells #[.func (.func ka) #[.pointer (some ⟨P, 0, none⟩)] #[], .func (.func kb) #[.pointer (some ⟨P, 0, none⟩)] #[]] 88)) from al (Below.refl _ _) _)
  have X4 := hide (bt X3.out XK.out (Nat.le_refl _))
  have B4 := hide (B3.out.below XK.out)
  have B524 := hide ((XK.out.block p2 (lt_of_block B523.out)).trans B523.out)
  have BK := hide (heap_alloc_new w1 (.cells #[.func (.func ka) #[.pointer (some ⟨P, 0, none⟩)] #[], .func (.func kb) #[.pointer (some ⟨P, 0, none⟩)] #[]] 88))
  clear XK B3 B523 X3
  obtain ⟨KB, hKB⟩ : ∃ p, p = w1.heap.size := ⟨_, rfl⟩
  rw [← hKB] at BK ⊢
  clear hKB
  generalize w1.alloc (.cells #[.func (.func ka) #[.pointer (some ⟨P, 0, none⟩)] #[], .func (.func kb) #[.pointer (some ⟨P, 0, none⟩)] #[]] 88) = W4 at *
  have HMM := hide (HMA.out W4 P B4.out (HA.out.below X4.out))
  have k0 : W4.cell? ⟨KB, 0, none⟩ = some (.func (.func ka) #[.pointer (some ⟨P, 0, none⟩)] #[]) := by rw [cell_of_row _ _ _ _ _ _ BK.out]; rfl
  have k1 : W4.cell? ⟨KB, 1, none⟩ = some (.func (.func kb) #[.pointer (some ⟨P, 0, none⟩)] #[]) := by rw [cell_of_row _ _ _ _ _ _ BK.out]; rfl
  go_wp2_with (fail)
  refine HMM.out.mono ?_
  rintro e w5 ⟨h5, x5⟩
  obtain ⟨_, rfl⟩ | ⟨h, _⟩ := h5
  rotate_left
  · exact absurd HRP.out h
  clear HRP HMM k0 k1 hent
  have X5 := hide (bt X4.out x5 (Nat.le_refl _))
  have B5 := hide (B4.out.below x5)
  have B525 := hide ((x5.block p2 (lt_of_block B524.out)).trans B524.out)
  have BK5 := hide ((x5.block KB (lt_of_block BK.out)).trans BK.out)
  clear x5 X4 B4 B524 BK
  obtain ⟨e0, e1, e2, e3, e4⟩ := L5.five_of B525.out
  go_wp2_with (fail)
  refine (reqRight _).mono ?_
  rintro e w6 ⟨rfl, x6⟩
  clear e0 e1 e2 e3 e4
  have X6 := hide (bt X5.out x6 (Nat.le_refl _))
  have B6 := hide (B5.out.below x6)
  have B526 := hide ((x6.block p2 (lt_of_block B525.out)).trans B525.out)
  have BK6 := hide ((x6.block KB (lt_of_block BK5.out)).trans BK5.out)
  clear x6 X5 B5 B525 BK5
  obtain ⟨e0, e1, e2, e3, e4⟩ := L5.five_of B526.out
  have k1 : w6.cell? ⟨KB, 1, none⟩ = some (.func (.func kb) #[.pointer (some ⟨P, 0, none⟩)] #[]) := by rw [cell_of_row _ _ _ _ _ _ BK6.out]; rfl
  have HPP := hide (HPS.out w6 P B6.out (HA.out.below X6.out))
  go_wp2_with (fail)
  refine HPP.out.mono ?_
  rintro e w7 ⟨rfl, x7⟩
  have X7 := hide (bt X6.out x7 (Nat.le_refl _))
  clear x7 e0 e1 e2 e3 e4 k1
  go_wp2
  go_ret2
  exact ⟨rfl, X7.out⟩
end Go.Proofs.YthgikaklcglpiaaGreatDoor.L9
