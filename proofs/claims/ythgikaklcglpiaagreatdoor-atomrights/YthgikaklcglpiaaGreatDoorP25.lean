/-
  kind of a test: which methods ask it, by its contract. No condition.
-/
import Derived.Test.YthgikaklcglpiaaGreatDoorP24
import Derived.Laws.ResultCell
import Derived.Laws.Rows
import Derived.Laws.Tables
namespace Go.Proofs.YthgikaklcglpiaaGreatDoor.L5
open Go.RowKit Go.Lib

theorem mkf (fn : Fn) (first cap : Array Value) (w : World) : (Instr.makeFunc fn first cap).run Tryz.prog w = .ok (.func fn first cap) w := rfl
set_option maxRecDepth 100000 in
set_option maxHeartbeats 1000000 in
theorem kind_bad (P : Nat) (a : AD) (w : World) (hP : TBx w P a) (hk : a.k < 7 ∨ 12 < a.k) :
    Calls Tryz.prog 42 #[.pointer (some ⟨P, 0, none⟩)] w fun e w' => e = .returned (.tuple #[.agg #[.nilFunc, .nilFunc], .bool false]) ∧ Below w.heap.size w w' := by
  have XW : Hid (Below w.heap.size w (w.alloc (.cells #[.nilFunc, .nilFunc] 88))) := al (Below.refl _ _) _
  obtain ⟨r0, -⟩ := (TBx.below hP XW.out).five
  clear hP
  rcases hk with hk | hk
  · go_enter Tryz.func42, Tryz.ntmps42
    go_wp2
    refine bodyPost_ret (v := .tuple #[.agg #[.nilFunc, .nilFunc], .bool false]) ?_ rfl ?_
    · rw [results_cell_tmp rfl]
      go_simp
    · exact ⟨rfl, XW.out⟩
  · have hk' : ¬ a.k < 7 := by omega
    go_enter Tryz.func42, Tryz.ntmps42
    go_wp2
    refine bodyPost_ret (v := .tuple #[.agg #[.nilFunc, .nilFunc], .bool false]) ?_ rfl ?_
    · rw [results_cell_tmp rfl]
      go_simp
    · exact ⟨rfl, XW.out⟩
/-- The table of kinds. -/
def kr (P : Nat) : Array Value := #[.nilFunc, .nilFunc, .nilFunc, .nilFunc, .nilFunc, .nilFunc, .nilFunc, .nilFunc, .nilFunc, .nilFunc, .nilFunc, .nilFunc, .nilFunc, .nilFunc, .func (.func 75) #[.pointer (some ⟨P, 0, none⟩)] #[], .func (.func 76) #[.pointer (some ⟨P, 0, none⟩)] #[], .func (.func 77) #[.pointer (some ⟨P, 0, none⟩)] #[], .func (.func 78) #[.pointer (some ⟨P, 0, none⟩)] #[], .func (.func 79) #[.pointer (some ⟨P, 0, none⟩)] #[], .func (.func 80) #[.pointer (some ⟨P, 0, none⟩)] #[], .func (.func 81) #[.pointer (some ⟨P, 0, none⟩)] #[], .func (.func 82) #[.pointer (some ⟨P, 0, none⟩)] #[], .func (.func 83) #[.pointer (some ⟨P, 0, none⟩)] #[], .func (.func 84) #[.pointer (some ⟨P, 0, none⟩)] #[], .func (.func 85) #[.pointer (some ⟨P, 0, none⟩)] #[], .func (.func 86) #[.pointer (some ⟨P, 0, none⟩)] #[]]
theorem kr_size (P : Nat) : (kr P).size = 26 := rfl
theorem kr_all (P : Nat) : (kr P).all (·.oneCell') = true := by simp [kr, Value.oneCell']
set_option maxRecDepth 100000 in
theorem wpList_build125 {ops : Array Oper} {rest : List Oper} {o : Oper} {a : Act} {w : World} {Q : Exit → Act → World → Prop} (P : Nat) (hg : o.guard = none) (ho : o.op = .build 125 #[(7, .tmp 24), (8, .tmp 29), (9, .tmp 34), (10, .tmp 39), (11, .tmp 44), (12, .tmp 49)])
    (h1 : a.eval (.tmp 24) = .agg #[.func (.func 75) #[.pointer (some ⟨P, 0, none⟩)] #[], .func (.func 76) #[.pointer (some ⟨P, 0, none⟩)] #[]]) (h2 : a.eval (.tmp 29) = .agg #[.func (.func 77) #[.pointer (some ⟨P, 0, none⟩)] #[], .func (.func 78) #[.pointer (some ⟨P, 0, none⟩)] #[]]) (h3 : a.eval (.tmp 34) = .agg #[.func (.func 79) #[.pointer (some ⟨P, 0, none⟩)] #[], .func (.func 80) #[.pointer (some ⟨P, 0, none⟩)] #[]]) (h4 : a.eval (.tmp 39) = .agg #[.func (.func 81) #[.pointer (some ⟨P, 0, none⟩)] #[], .func (.func 82) #[.pointer (some ⟨P, 0, none⟩)] #[]]) (h5 : a.eval (.tmp 44) = .agg #[.func (.func 83) #[.pointer (some ⟨P, 0, none⟩)] #[], .func (.func 84) #[.pointer (some ⟨P, 0, none⟩)] #[]]) (h6 : a.eval (.tmp 49) = .agg #[.func (.func 85) #[.pointer (some ⟨P, 0, none⟩)] #[], .func (.func 86) #[.pointer (some ⟨P, 0, none⟩)] #[]])
    (h : wpList Tryz.prog ops Q rest (a.put o.dst (.agg (kr P))) w) : wpList Tryz.prog ops Q (o :: rest) a w := by
  have e0 : ((#[(7, Operand.tmp 24), (8, .tmp 29), (9, .tmp 34), (10, .tmp 39), (11, .tmp 44), (12, .tmp 49)] : Array (Nat × Operand)).map fun (i, x) => (i, a.eval x)).toList = [(7, .agg #[.func (.func 75) #[.pointer (some ⟨P, 0, none⟩)] #[], .func (.func 76) #[.pointer (some ⟨P, 0, none⟩)] #[]]), (8, .agg #[.func (.func 77) #[.pointer (some ⟨P, 0, none⟩)] #[], .func (.func 78) #[.pointer (some ⟨P, 0, none⟩)] #[]]), (9, .agg #[.func (.func 79) #[.pointer (some ⟨P, 0, none⟩)] #[], .func (.func 80) #[.pointer (some ⟨P, 0, none⟩)] #[]]), (10, .agg #[.func (.func 81) #[.pointer (some ⟨P, 0, none⟩)] #[], .func (.func 82) #[.pointer (some ⟨P, 0, none⟩)] #[]]), (11, .agg #[.func (.func 83) #[.pointer (some ⟨P, 0, none⟩)] #[], .func (.func 84) #[.pointer (some ⟨P, 0, none⟩)] #[]]), (12, .agg #[.func (.func 85) #[.pointer (some ⟨P, 0, none⟩)] #[], .func (.func 86) #[.pointer (some ⟨P, 0, none⟩)] #[]])] := by simp [h1, h2, h3, h4, h5, h6]
  have e1 : (Tryz.prog.built 125 [(7, .agg #[.func (.func 75) #[.pointer (some ⟨P, 0, none⟩)] #[], .func (.func 76) #[.pointer (some ⟨P, 0, none⟩)] #[]]), (8, .agg #[.func (.func 77) #[.pointer (some ⟨P, 0, none⟩)] #[], .func (.func 78) #[.pointer (some ⟨P, 0, none⟩)] #[]]), (9, .agg #[.func (.func 79) #[.pointer (some ⟨P, 0, none⟩)] #[], .func (.func 80) #[.pointer (some ⟨P, 0, none⟩)] #[]]), (10, .agg #[.func (.func 81) #[.pointer (some ⟨P, 0, none⟩)] #[], .func (.func 82) #[.pointer (some ⟨P, 0, none⟩)] #[]]), (11, .agg #[.func (.func 83) #[.pointer (some ⟨P, 0, none⟩)] #[], .func (.func 84) #[.pointer (some ⟨P, 0, none⟩)] #[]]), (12, .agg #[.func (.func 85) #[.pointer (some ⟨P, 0, none⟩)] #[], .func (.func 86) #[.pointer (some ⟨P, 0, none⟩)] #[]])]).isSome = true := by kernel_rfl
  have e2 : (Tryz.prog.built 125 [(7, .agg #[.func (.func 75) #[.pointer (some ⟨P, 0, none⟩)] #[], .func (.func 76) #[.pointer (some ⟨P, 0, none⟩)] #[]]), (8, .agg #[.func (.func 77) #[.pointer (some ⟨P, 0, none⟩)] #[], .func (.func 78) #[.pointer (some ⟨P, 0, none⟩)] #[]]), (9, .agg #[.func (.func 79) #[.pointer (some ⟨P, 0, none⟩)] #[], .func (.func 80) #[.pointer (some ⟨P, 0, none⟩)] #[]]), (10, .agg #[.func (.func 81) #[.pointer (some ⟨P, 0, none⟩)] #[], .func (.func 82) #[.pointer (some ⟨P, 0, none⟩)] #[]]), (11, .agg #[.func (.func 83) #[.pointer (some ⟨P, 0, none⟩)] #[], .func (.func 84) #[.pointer (some ⟨P, 0, none⟩)] #[]]), (12, .agg #[.func (.func 85) #[.pointer (some ⟨P, 0, none⟩)] #[], .func (.func 86) #[.pointer (some ⟨P, 0, none⟩)] #[]])]).getD #[] = kr P := by kernel_rfl
  refine wpList_build hg 125 _ ho (by rw [e0]; exact e1) ?_
  rw [e0, e2]
  exact h
def kz : Array Value := #[.nilFunc, .nilFunc, .nilFunc, .nilFunc, .nilFunc, .nilFunc, .nilFunc, .nilFunc, .nilFunc, .nilFunc, .nilFunc, .nilFunc, .nilFunc, .nilFunc, .nilFunc, .nilFunc, .nilFunc, .nilFunc, .nilFunc, .nilFunc, .nilFunc, .nilFunc, .nilFunc, .nilFunc, .nilFunc, .nilFunc]
theorem info125 : (Tryz.prog.info? 125).map (fun i => (i.zero, i.size)) = some (some (.agg kz), 26) := by kernel_rfl
theorem kr_get (P : Nat) (k : Nat) (h7 : 7 ≤ k) (h12 : k ≤ 12) : (kr P)[k * 2]? = some (.func (.func (61 + 2 * k)) #[.pointer (some ⟨P, 0, none⟩)] #[]) ∧ (kr P)[k * 2 + 1]? = some (.func (.func (62 + 2 * k)) #[.pointer (some ⟨P, 0, none⟩)] #[]) := by
  rcases (by omega : k = 7 ∨ k = 8 ∨ k = 9 ∨ k = 10 ∨ k = 11 ∨ k = 12) with rfl | rfl | rfl | rfl | rfl | rfl <;> exact ⟨rfl, rfl⟩
set_option maxRecDepth 100000 in
set_option maxHeartbeats 4000000 in
theorem kind_ok (P : Nat) (a : AD) (w : World) (hP : TBx w P a) (k : Nat) (h7 : 7 ≤ k) (h12 : k ≤ 12) (hk : a.k = (k : Int)) :
    Calls Tryz.prog 42 #[.pointer (some ⟨P, 0, none⟩)] w fun e w' => e = .returned (.tuple #[.agg #[.func (.func (61 + 2 * k)) #[.pointer (some ⟨P, 0, none⟩)] #[], .func (.func (62 + 2 * k)) #[.pointer (some ⟨P, 0, none⟩)] #[]], .bool true]) ∧ Below w.heap.size w w' := by
  have XW : Hid (Below w.heap.size w (w.alloc (.cells #[.nilFunc, .nilFunc] 88))) := al (Below.refl _ _) _
  have HPC := hide (fun V (y : Below w.heap.size w V) => (TBx.below hP y).five.1)
  have r0 := HPC.out _ XW.out
  rw [hk] at r0 HPC
  have hmf := mkf
  obtain ⟨hzv, hsz⟩ := zero_of_info info125
  have HG := hide (kr_get P k h7 h12)
  have HAL := hide (kr_all P)
  have HSZ := hide (kr_size P)
  have hsz0 : kz.size = 26 := rfl
  obtain ⟨z, hz⟩ : ∃ z, z = kz := ⟨_, rfl⟩
  rw [← hz] at hzv hsz0
  have HSZ0 := hide hsz0
  have HI : Hid ((Tryz.prog.info? 125).map (·.size) = some (kr P).size) := by unfold Hid; rw [hsz, HSZ.out]
  have HZ2 : Hid (z.size = (kr P).size) := by unfold Hid; rw [HSZ.out]; exact hsz0
  clear hP hk hz hsz hsz0
  have B0 : Hid ((w.alloc (.cells #[.nilFunc, .nilFunc] 88)).heap[w.heap.size]? = some (.cells #[.nilFunc, .nilFunc] 88 (0, 0))) := heap_alloc_new w _
  have h1 : ¬ (k : Int) < 7 := by omega
  have h2 : ¬ (12 : Int) < (k : Int) := by omega
  have h3 : (k : Int) < 13 := by omega
  clear h7 h12
  go_enter Tryz.func42, Tryz.ntmps42
  go_upto_region 3 with fail
  obtain ⟨R, hR⟩ : ∃ R, R = w.heap.size := ⟨_, rfl⟩
  rw [← hR] at B0 ⊢
  have HRW : Hid (w.heap.size ≤ R) := by rw [hR]; exact Nat.le_refl _
  clear hR
  generalize w.alloc (.cells #[.nilFunc, .nilFunc] 88) = W at *
  have BZ := hide (heap_alloc_new W (.cells z 125))
  have X1 := hide (bt XW.out (show Below W.heap.size W (W.alloc (.cells z 125)) from al (Below.refl _ _) _) (Nat.le_refl _))
  have B01 := hide (((show Below W.heap.size W (W.alloc (.cells z 125)) from al (Below.refl _ _) _).block R (lt_of_block B0.out)).trans B0.out)
  have HWW := hide XW.out.size
  go_upto_region 4 with (first | (refine wpList_build125 P rfl rfl rfl rfl rfl rfl rfl rfl ?_) | (refine wpList_store_row rfl 125 (.tmp 4) (.tmp 50) rfl W.heap.size (kr P) rfl rfl 125 z BZ.out HI.out HZ2.out HAL.out ?_))
  have HA := hide (setRow_heap _ W.heap.size z (kr P) 125 (0, 0) BZ.out)
  have HX := hide (below_setRow X1.out HWW.out (kr P))
  have HR := hide ((setRow_other (W.alloc (.cells z 125)) W.heap.size R (kr P) (by have := lt_of_block B0.out; omega)).trans B01.out)
  clear hmf hzv HAL HSZ HSZ0 HI HZ2 BZ X1 B01 B0 XW r0 h1 h2
  obtain ⟨A, hA⟩ : ∃ A, A = W.heap.size := ⟨_, rfl⟩
  rw [← hA] at HA HX HR ⊢
  clear hA HWW
  generalize (W.alloc (.cells z 125)).setRow A (kr P) = W2 at *
  have r0 := HPC.out _ HX.out
  obtain ⟨g1, g2⟩ := HG.out
  have c1 : W2.cell? ⟨A, k * 2, none⟩ = some (.func (.func (61 + 2 * k)) #[.pointer (some ⟨P, 0, none⟩)] #[]) := by rw [cell_of_row _ _ _ _ _ _ HA.out]; exact g1
  have c2 : W2.cell? ⟨A, k * 2 + 1, none⟩ = some (.func (.func (62 + 2 * k)) #[.pointer (some ⟨P, 0, none⟩)] #[]) := by rw [cell_of_row _ _ _ _ _ _ HA.out]; exact g2
  have d0 : W2.cell? ⟨R, 0, none⟩ = some .nilFunc := by rw [cell_of_row _ _ _ _ _ _ HR.out]; rfl
  have d1 : W2.cell? ⟨R, 1, none⟩ = some .nilFunc := by rw [cell_of_row _ _ _ _ _ _ HR.out]; rfl
  have f0 := frozen_of_row W2 R 0 _ _ HR.out
  have f1 := frozen_of_row W2 R 1 _ _ HR.out
  have HF : Hid (Below w.heap.size w ((W2.setCell ⟨R, 0, none⟩ (.func (.func (61 + 2 * k)) #[.pointer (some ⟨P, 0, none⟩)] #[])).setCell ⟨R, 1, none⟩ (.func (.func (62 + 2 * k)) #[.pointer (some ⟨P, 0, none⟩)] #[]))) := (HX.out.setCell (p := ⟨R, 0, none⟩) HRW.out _).setCell (p := ⟨R, 1, none⟩) HRW.out _
  clear g1 g2 HG HA HPC
  obtain ⟨ka, hka⟩ : ∃ ka, ka = 61 + 2 * k := ⟨_, rfl⟩
  obtain ⟨kb, hkb⟩ : ∃ kb, kb = 62 + 2 * k := ⟨_, rfl⟩
  rw [← hka] at c1 HF
  rw [← hkb] at c2 HF
  have HKA := hide hka
  have HKB := hide hkb
  clear hka hkb
  go_wp2
  refine bodyPost_ret (v := .tuple #[.agg #[.func (.func ka) #[.pointer (some ⟨P, 0, none⟩)] #[], .func (.func kb) #[.pointer (some ⟨P, 0, none⟩)] #[]], .bool true]) ?_ rfl ?_
  · rw [results_cell_tmp rfl]
    go_simp
  · exact ⟨by rw [HKA.out, HKB.out], HF.out⟩
end Go.Proofs.YthgikaklcglpiaaGreatDoor.L5
/-
  Right of any test by its contract. Condition: texts and lists no longer than a process can hold.
-/
namespace Go.Proofs.YthgikaklcglpiaaGreatDoor.L5
open Go.RowKit Go.Lib

/-- What a kind asks. -/
def rgP (a : AD) (k : Nat) : Prop := match k with
  | 7 => onl a a.spO = true ∧ Hst a.sp 4294967295
  | 8 => onl a a.spO = true ∧ Hst a.sp 65535
  | 9 => onl a a.nsO = true ∧ AM a.ns
  | 10 => onl a a.pcO = true ∧ Rt (a.D.map PD.p)
  | 11 => onl a a.npO = true ∧ HN a.nm ∧ Rt (a.D.map PD.p)
  | 12 => onl a a.nmO = true ∧ HN a.nm
  | _ => False
def RgA (a : AD) : Prop := 7 ≤ a.k ∧ a.k ≤ 12 ∧ rgP a a.k.toNat
/-- The method that is asked, whatever the kind. -/
theorem method_any (k : Nat) (h7 : 7 ≤ k) (h12 : k ≤ 12) (P : Nat) (a : AD) (w : World) (hP : TBx w P a) (ha : AtW w a) :
    Calls Tryz.prog (61 + 2 * k) #[.pointer (some ⟨P, 0, none⟩)] w fun e w' => YesNo (rgP a k) e ∧ Below w.heap.size w w' := by
  rcases (by omega : k = 7 ∨ k = 8 ∨ k = 9 ∨ k = 10 ∨ k = 11 ∨ k = 12) with rfl | rfl | rfl | rfl | rfl | rfl
  · exact rightAddrs_any P a w hP ha
  · exact rightPorts_any P a w hP ha
  · exact rightMethods_any P a w hP ha
  · exact rightPath_any P a w hP ha
  · exact rightHeader_any P a w hP ha
  · exact rightHas_any P a w hP ha
theorem enters_m (k : Nat) (h7 : 7 ≤ k) (h12 : k ≤ 12) : ∀ (args : Array Value) (w : World), (callFunc (61 + 2 * k) args).run Tryz.prog w = .ok (.enter (61 + 2 * k) args) w := fun args w => by
  rcases (by omega : k = 7 ∨ k = 8 ∨ k = 9 ∨ k = 10 ∨ k = 11 ∨ k = 12) with rfl | rfl | rfl | rfl | rfl | rfl <;> kernel_rfl
set_option maxRecDepth 100000 in
set_option maxHeartbeats 2000000 in
theorem rightA_any (a : AD) (w : World) (ha : AtW w a) : Calls Tryz.prog 20 #[.agg a.cells] w fun e w' => YesNo (RgA a) e ∧ Below w.heap.size w w' := by
  have X1 := hide (show Below w.heap.size w (w.alloc (.cells a.cells 35)) from al (Below.refl _ _) _)
  have B1 := hide (heap_alloc_new w (.cells a.cells 35))
  have HA := hide ha
  obtain ⟨f0, f1, f2, f3, f4⟩ : (w.alloc (.cells a.cells 35)).cell? ⟨w.heap.size, 0, none⟩ = some (.int .i64 a.k) ∧ (w.alloc (.cells a.cells 35)).cell? ⟨w.heap.size, 1, none⟩ = some (.string ⟨a.nm.toArray⟩) ∧ (w.alloc (.cells a.cells 35)).cell? ⟨w.heap.size, 2, none⟩ = some (.slice a.so a.sp.length a.sc) ∧ (w.alloc (.cells a.cells 35)).cell? ⟨w.heap.size, 3, none⟩ = some (.slice a.no a.ns.length a.nc) ∧ (w.alloc (.cells a.cells 35)).cell? ⟨w.heap.size, 4, none⟩ = some (.slice a.po a.D.length a.pc) := five_of B1.out
  have hc : a.cells = #[.int .i64 a.k, .string ⟨a.nm.toArray⟩, .slice a.so a.sp.length a.sc, .slice a.no a.ns.length a.nc, .slice a.po a.D.length a.pc] := rfl
  have X2 := hide (bt X1.out (show Below (w.alloc (.cells a.cells 35)).heap.size (w.alloc (.cells a.cells 35)) ((w.alloc (.cells a.cells 35)).alloc (.cells a.cells 92)) from al (Below.refl _ _) _) (Nat.le_refl _))
  have B2 : Hid (TBx ((w.alloc (.cells a.cells 35)).alloc (.cells a.cells 92)) (w.heap.size + 1) a) := by
    unfold Hid TBx
    rw [show w.heap.size + 1 = (w.alloc (.cells a.cells 35)).heap.size by simp]
    exact heap_alloc_new _ _
  have HKG := hide (fun (k : Nat) (h7 : 7 ≤ k) (h12 : k ≤ 12) (hk : a.k = (k : Int)) => kind_ok (w.heap.size + 1) a _ B2.out k h7 h12 hk)
  have HKB := hide (fun h => kind_bad (w.heap.size + 1) a _ B2.out h)
  have HRG : Hid (∀ k : Nat, a.k = (k : Int) → 7 ≤ k → k ≤ 12 → (RgA a ↔ rgP a k)) := fun k hk h7 h12 => by
    unfold RgA
    rw [hk]
    exact ⟨fun h => h.2.2, fun h => ⟨by omega, by omega, h⟩⟩
  clear ha B1
  rw [hc] at X1 f0 f1 f2 f3 f4 X2 B2 HKG HKB ⊢
  by_cases hk : 7 ≤ a.k ∧ a.k ≤ 12
  · obtain ⟨k, hkk⟩ : ∃ k : Nat, a.k = (k : Int) := ⟨a.k.toNat, by omega⟩
    have h7 : 7 ≤ k := by omega
    have h12 : k ≤ 12 := by omega
    have HKK := hide (HKG.out k h7 h12 hkk)
    have HRG2 := hide (HRG.out k hkk h7 h12)
    have HM := hide (fun V (y : Below w.heap.size w V) (p : TBx V (w.heap.size + 1) a) => method_any k h7 h12 (w.heap.size + 1) a V p (HA.out.below y))
    have hent := enters_m k h7 h12
    generalize 61 + 2 * k = ka at *
    generalize 62 + 2 * k = kb at *
    clear HKG HKB HRG hk h7 h12 hkk
    go_enter Tryz.func20, Tryz.ntmps20
    go_upto_region 2 with (go_at_call 42; refine HKK.out.mono ?_; rintro e w1 ⟨rfl, x1⟩; have X3 := hide (bt X2.out x1 (Nat.le_refl _)); have B3 := hide (B2.out.below x1); clear x1)
    clear f0 f1 f2 f3 f4 HKK hc
    have X4 := hide (bt X3.out (show Below w1.heap.size w1 (w1.alloc (.cells #[.func (.func ka) #[.pointer (some ⟨w.heap.size + 1, 0, none⟩)] #[], .func (.func kb) #[.pointer (some ⟨w.heap.size + 1, 0, none⟩)] #[]] 88)) from al (Below.refl _ _) _) (Nat.le_refl _))
    have B4 := hide (B3.out.below (show Below w1.heap.size w1 (w1.alloc (.cells #[.func (.func ka) #[.pointer (some ⟨w.heap.size + 1, 0, none⟩)] #[], .func (.func kb) #[.pointer (some ⟨w.heap.size + 1, 0, none⟩)] #[]] 88)) from al (Below.refl _ _) _))
    have HMM := hide (HM.out _ X4.out B4.out)
    go_wp2_with (fail)
    refine HMM.out.mono ?_
    rintro e w2 ⟨h2, x2⟩
    obtain ⟨q, rfl, hq⟩ := YesNo.bool h2
    have HQ := hide hq
    have X5 := hide (bt X4.out x2 (Nat.le_refl _))
    clear h2 hq x2
    go_wp2
    go_ret
    exact ⟨YesNo.of (HQ.out.trans HRG2.out.symm), X5.out⟩
  · have HN : Hid (¬ RgA a) := fun h => hk ⟨h.1, h.2.1⟩
    have HKK := hide (HKB.out (by omega))
    clear HKG HKB HRG hk
    go_enter Tryz.func20, Tryz.ntmps20
    go_wp2_with (go_at_call 42; refine HKK.out.mono ?_; rintro e w1 ⟨rfl, x1⟩; have X3 := hide (bt X2.out x1 (Nat.le_refl _)); clear x1)
    go_ret
    exact ⟨.inr ⟨HN.out, rfl⟩, al X3.out _⟩
end Go.Proofs.YthgikaklcglpiaaGreatDoor.L5
