/-
  made of a condition that is one test, whatever makes it. Condition: that keeps its own contract.
-/
import Derived.Test.YthgikaklcglpiaaGreatDoorP18
import Derived.Test.YthgikaklcglpiaaGreatDoorP25
import Derived.Laws.ResultCell
import Derived.Laws.Tables
namespace Go.Proofs.YthgikaklcglpiaaGreatDoor.L9
open Go.RowKit Go.Lib

/-- The table of makers. -/
def mr (P : Nat) : Array Value := #[.nilFunc, .nilFunc, .nilFunc, .nilFunc, .nilFunc, .nilFunc, .nilFunc, .func (.func 63) #[.pointer (some ⟨P, 0, none⟩)] #[], .func (.func 64) #[.pointer (some ⟨P, 0, none⟩)] #[], .func (.func 65) #[.pointer (some ⟨P, 0, none⟩)] #[], .func (.func 66) #[.pointer (some ⟨P, 0, none⟩)] #[], .func (.func 67) #[.pointer (some ⟨P, 0, none⟩)] #[], .func (.func 68) #[.pointer (some ⟨P, 0, none⟩)] #[]]
theorem mr_size (P : Nat) : (mr P).size = 13 := rfl
theorem mr_all (P : Nat) : (mr P).all (·.oneCell') = true := by simp [mr, Value.oneCell']
set_option maxRecDepth 100000 in
theorem wpList_build119 {ops : Array Oper} {rest : List Oper} {o : Oper} {a : Act} {w : World} {Q : Exit → Act → World → Prop} (P : Nat) (hg : o.guard = none) (ho : o.op = .build 119 #[(7, .tmp 26), (8, .tmp 28), (9, .tmp 30), (10, .tmp 32), (11, .tmp 34), (12, .tmp 36)])
    (h0 : a.eval (.tmp 26) = .func (.func 63) #[.pointer (some ⟨P, 0, none⟩)] #[]) (h1 : a.eval (.tmp 28) = .func (.func 64) #[.pointer (some ⟨P, 0, none⟩)] #[]) (h2 : a.eval (.tmp 30) = .func (.func 65) #[.pointer (some ⟨P, 0, none⟩)] #[]) (h3 : a.eval (.tmp 32) = .func (.func 66) #[.pointer (some ⟨P, 0, none⟩)] #[]) (h4 : a.eval (.tmp 34) = .func (.func 67) #[.pointer (some ⟨P, 0, none⟩)] #[]) (h5 : a.eval (.tmp 36) = .func (.func 68) #[.pointer (some ⟨P, 0, none⟩)] #[])
    (h : wpList Tryz.prog ops Q rest (a.put o.dst (.agg (mr P))) w) : wpList Tryz.prog ops Q (o :: rest) a w := by
  have e0 : ((#[(7, Operand.tmp 26), (8, .tmp 28), (9, .tmp 30), (10, .tmp 32), (11, .tmp 34), (12, .tmp 36)] : Array (Nat × Operand)).map fun (i, x) => (i, a.eval x)).toList = [(7, .func (.func 63) #[.pointer (some ⟨P, 0, none⟩)] #[]), (8, .func (.func 64) #[.pointer (some ⟨P, 0, none⟩)] #[]), (9, .func (.func 65) #[.pointer (some ⟨P, 0, none⟩)] #[]), (10, .func (.func 66) #[.pointer (some ⟨P, 0, none⟩)] #[]), (11, .func (.func 67) #[.pointer (some ⟨P, 0, none⟩)] #[]), (12, .func (.func 68) #[.pointer (some ⟨P, 0, none⟩)] #[])] := by simp [h0, h1, h2, h3, h4, h5]
  have e1 : (Tryz.prog.built 119 [(7, .func (.func 63) #[.pointer (some ⟨P, 0, none⟩)] #[]), (8, .func (.func 64) #[.pointer (some ⟨P, 0, none⟩)] #[]), (9, .func (.func 65) #[.pointer (some ⟨P, 0, none⟩)] #[]), (10, .func (.func 66) #[.pointer (some ⟨P, 0, none⟩)] #[]), (11, .func (.func 67) #[.pointer (some ⟨P, 0, none⟩)] #[]), (12, .func (.func 68) #[.pointer (some ⟨P, 0, none⟩)] #[])]).isSome = true := by kernel_rfl
  have e2 : (Tryz.prog.built 119 [(7, .func (.func 63) #[.pointer (some ⟨P, 0, none⟩)] #[]), (8, .func (.func 64) #[.pointer (some ⟨P, 0, none⟩)] #[]), (9, .func (.func 65) #[.pointer (some ⟨P, 0, none⟩)] #[]), (10, .func (.func 66) #[.pointer (some ⟨P, 0, none⟩)] #[]), (11, .func (.func 67) #[.pointer (some ⟨P, 0, none⟩)] #[]), (12, .func (.func 68) #[.pointer (some ⟨P, 0, none⟩)] #[])]).getD #[] = mr P := by kernel_rfl
  refine wpList_build hg 119 _ ho (by rw [e0]; exact e1) ?_
  rw [e0, e2]
  exact h
def mz : Array Value := #[.nilFunc, .nilFunc, .nilFunc, .nilFunc, .nilFunc, .nilFunc, .nilFunc, .nilFunc, .nilFunc, .nilFunc, .nilFunc, .nilFunc, .nilFunc]
theorem info119 : (Tryz.prog.info? 119).map (fun i => (i.zero, i.size)) = some (some (.agg mz), 13) := by kernel_rfl
theorem mr_get (P : Nat) (k : Nat) (h7 : 7 ≤ k) (h12 : k ≤ 12) : (mr P)[k]? = some (.func (.func (56 + k)) #[.pointer (some ⟨P, 0, none⟩)] #[]) := by
  rcases (by omega : k = 7 ∨ k = 8 ∨ k = 9 ∨ k = 10 ∨ k = 11 ∨ k = 12) with rfl | rfl | rfl | rfl | rfl | rfl <;> rfl
theorem enters_mk (k : Nat) (h7 : 7 ≤ k) (h12 : k ≤ 12) : ∀ (args : Array Value) (w : World), (callFunc (56 + k) args).run Tryz.prog w = .ok (.enter (56 + k) args) w := fun args w => by
  rcases (by omega : k = 7 ∨ k = 8 ∨ k = 9 ∨ k = 10 ∨ k = 11 ∨ k = 12) with rfl | rfl | rfl | rfl | rfl | rfl <;> kernel_rfl
/-- A test that came out: its lists lie from base on. -/
structure AtF (w : World) (base : Nat) (a : L5.AD) : Prop where
  at_ : L5.AtW w a
  so : ∀ ad, a.so = some ad → base ≤ ad.block ∧ ad.block < w.heap.size
  no : ∀ ad, a.no = some ad → base ≤ ad.block ∧ ad.block < w.heap.size
  D : a.D = []
theorem StAt_kept {F : Nat → Prop} {w w' : World} {ao : Option Addr} {L : List By} (h : L5.StAt w ao L) (hk : L5.Kept F w w') (hF : ∀ a, ao = some a → ¬ F a.block) : L5.StAt w' ao L := by
  rcases h with h | ⟨b, off, h1, h2, h3⟩
  · exact .inl h
  · exact .inr ⟨b, off, h1, Nat.lt_of_lt_of_le h2 hk.size, fun i hi => (hk.cell (p := ⟨b, off + i, none⟩) h2 (show ¬ F b from hF ⟨b, off, none⟩ h1)).trans (h3 i hi)⟩
theorem AtF.kept {F : Nat → Prop} {w w' : World} {base : Nat} {a : L5.AD} (h : AtF w base a) (hk : L5.Kept F w w') (hF : ∀ k, F k → k < base ∨ w.heap.size ≤ k) : AtF w' base a := by
  have n1 : ∀ ad, a.so = some ad → ¬ F ad.block := fun ad e f => by have := h.so ad e; have := hF _ f; omega
  have n2 : ∀ ad, a.no = some ad → ¬ F ad.block := fun ad e f => by have := h.no ad e; have := hF _ f; omega
  exact ⟨⟨L5.SpAt.kept h.at_.sp hk n1, StAt_kept h.at_.ns hk n2, .inl h.D, h.at_.lsp, h.at_.lns, h.at_.lD, h.at_.lpc, h.at_.lnm, h.at_.lst⟩, fun ad e => ⟨(h.so ad e).1, Nat.lt_of_lt_of_le (h.so ad e).2 hk.size⟩, fun ad e => ⟨(h.no ad e).1, Nat.lt_of_lt_of_le (h.no ad e).2 hk.size⟩, h.D⟩
theorem AtF.below {w w' : World} {base : Nat} {a : L5.AD} (h : AtF w base a) (x : Below w.heap.size w w') : AtF w' base a := h.kept (F := fun _ => False) (L5.Kept.of_below x) (fun _ f => absurd f (fun h => h))
theorem AtF.mono {w : World} {base base' : Nat} {a : L5.AD} (h : AtF w base a) (hb : base' ≤ base) : AtF w base' a := ⟨h.at_, fun ad e => ⟨Nat.le_trans hb (h.so ad e).1, (h.so ad e).2⟩, fun ad e => ⟨Nat.le_trans hb (h.no ad e).1, (h.no ad e).2⟩, h.D⟩
set_option maxRecDepth 100000 in
set_option maxHeartbeats 4000000 in
theorem made_ok {w : World} {b0 : Nat} {c : CT} {vs : List Value} {bs : List Nat} {y : WS} (hc : CtAt w b0 c vs bs) (hnd : bs.Nodup) (hb0 : b0 ≤ w.heap.size) (ho : CondOk c) (hx : polW [⟨2, [97], c, 0⟩] ([], true) = some y)
    (K : Nat) (hK : c.k = (K : Int)) (h7 : 7 ≤ K) (h12 : K ≤ 12) (Pa : L5.AD → Prop)
    (hmk : ∀ (V : World) (P : Nat), Below w.heap.size w V → V.heap[P]? = some (.cells vs.toArray 117 (0, 0)) → Calls Tryz.prog (56 + K) #[.pointer (some ⟨P, 0, none⟩)] V fun e w' => (∃ a : L5.AD, e = .returned (.tuple #[.agg a.cells, .bool true]) ∧ Pa a ∧ AtF w' V.heap.size a) ∧ Below V.heap.size V w') :
    Calls Tryz.prog 36 #[.agg vs.toArray] w fun e w' => (∃ a : L5.AD, e = .returned (.tuple #[.agg ({ a with k := (K : Int) } : L5.AD).cells, .bool true]) ∧ Pa a ∧ AtF w' w.heap.size a) ∧ Below w.heap.size w w' := by
  have HSY := hide (fun V (x : Below w.heap.size w V) => sayable_ok (hc.below x) hnd (Nat.le_trans hb0 x.size) ho hx)
  obtain ⟨a3, c3, a4, c4, a5, c5, a6, c6, rfl⟩ := hc.eight
  have HMK := hide hmk
  have hent := enters_mk K h7 h12
  have HMG := hide (fun P => mr_get P K h7 h12)
  clear hc hnd hb0 ho hx hmk
  simp only [hK] at HSY HMK ⊢
  generalize c.nm = cnm at *
  generalize c.tx = ctx at *
  generalize c.p = cp at *
  generalize c.pre.length = npre at *
  generalize c.sp.length = nsp at *
  generalize c.ns.length = nns at *
  generalize c.kids.length = nk at *
  have X0 := hide (show Below w.heap.size w ((w.alloc (.cells #[.int .i64 (K : Nat), .string ⟨cnm.toArray⟩, .string ⟨ctx.toArray⟩, .slice a3 npre c3, .slice a4 nsp c4, .slice a5 nns c5, .slice a6 nk c6, .int .i64 cp] 27)).alloc (.cells #[.int .i64 0, .string ⟨#[]⟩, .slice none 0 0, .slice none 0 0, .slice none 0 0] 35)) from al (al (Below.refl _ _) _) _)
  have B1 : Hid (((w.alloc (.cells #[.int .i64 (K : Nat), .string ⟨cnm.toArray⟩, .string ⟨ctx.toArray⟩, .slice a3 npre c3, .slice a4 nsp c4, .slice a5 nns c5, .slice a6 nk c6, .int .i64 cp] 27)).alloc (.cells #[.int .i64 0, .string ⟨#[]⟩, .slice none 0 0, .slice none 0 0, .slice none 0 0] 35)).heap[w.heap.size]? = some (.cells #[.int .i64 (K : Nat), .string ⟨cnm.toArray⟩, .string ⟨ctx.toArray⟩, .slice a3 npre c3, .slice a4 nsp c4, .slice a5 nns c5, .slice a6 nk c6, .int .i64 cp] 27 (0, 0))) := (heap_alloc_old _ _ (by simp)).trans (heap_alloc_new w _)
  have B2 : Hid (((w.alloc (.cells #[.int .i64 (K : Nat), .string ⟨cnm.toArray⟩, .string ⟨ctx.toArray⟩, .slice a3 npre c3, .slice a4 nsp c4, .slice a5 nns c5, .slice a6 nk c6, .int .i64 cp] 27)).alloc (.cells #[.int .i64 0, .string ⟨#[]⟩, .slice none 0 0, .slice none 0 0, .slice none 0 0] 35)).heap[w.heap.size + 1]? = some (.cells #[.int .i64 0, .string ⟨#[]⟩, .slice none 0 0, .slice none 0 0, .slice none 0 0] 35 (0, 0))) := by
    unfold Hid
    rw [show w.heap.size + 1 = (w.alloc (.cells #[.int .i64 (K : Nat), .string ⟨cnm.toArray⟩, .string ⟨ctx.toArray⟩, .slice a3 npre c3, .slice a4 nsp c4, .slice a5 nns c5, .slice a6 nk c6, .int .i64 cp] 27)).heap.size by simp]
    exact heap_alloc_new _ _
  have k1 : ¬ (K : Int) < 7 := by omega
  have k2 : ¬ (12 : Int) < (K : Int) := by omega
  have k3 : (K : Int) < 13 := by omega
  clear hK
  obtain ⟨P, hP⟩ : ∃ P, P = w.heap.size := ⟨_, rfl⟩
  obtain ⟨R, hR⟩ : ∃ R, R = w.heap.size + 1 := ⟨_, rfl⟩
  have HRW : Hid (w.heap.size ≤ R) := by unfold Hid; omega
  go_enter Tryz.func36, Tryz.ntmps36
  go_upto_region 1 with fail
  rw [← hP] at B1
  rw [← hR] at B2
  rw [← hR, ← hP]
  clear hP hR
  generalize (w.alloc (.cells #[.int .i64 (K : Nat), .string ⟨cnm.toArray⟩, .string ⟨ctx.toArray⟩, .slice a3 npre c3, .slice a4 nsp c4, .slice a5 nns c5, .slice a6 nk c6, .int .i64 cp] 27)).alloc (.cells #[.int .i64 0, .string ⟨#[]⟩, .slice none 0 0, .slice none 0 0, .slice none 0 0] 35) = W at *
  obtain ⟨q0, q1, q2, q3, q4, q5, q6, q7⟩ := ld8 B1.out
  have HSS := hide (HSY.out _ X0.out)
  go_upto_region 3 with (go_at_call 62; refine HSS.out.mono ?_; rintro e w1 ⟨rfl, x1⟩; have Y1 := hide x1; have X1 := hide (bt X0.out x1 (Nat.le_refl _)); clear x1)
  clear q0 q1 q2 q3 q4 q5 q6 q7 HSS HSY k1 k2
  have B11 := hide ((Y1.out.block P (lt_of_block B1.out)).trans B1.out)
  have B21 := hide ((Y1.out.block R (lt_of_block B2.out)).trans B2.out)
  clear B1 B2 Y1 X0
  obtain ⟨q0, q1, q2, q3, q4, q5, q6, q7⟩ := ld8 B11.out
  have X2 := hide (bt X1.out (show Below w1.heap.size w1 (w1.alloc (.cells #[.int .i64 (K : Nat), .string ⟨cnm.toArray⟩, .string ⟨ctx.toArray⟩, .slice a3 npre c3, .slice a4 nsp c4, .slice a5 nns c5, .slice a6 nk c6, .int .i64 cp] 117)) from al (Below.refl _ _) _) (Nat.le_refl _))
  have B12 := hide (((show Below w1.heap.size w1 (w1.alloc (.cells #[.int .i64 (K : Nat), .string ⟨cnm.toArray⟩, .string ⟨ctx.toArray⟩, .slice a3 npre c3, .slice a4 nsp c4, .slice a5 nns c5, .slice a6 nk c6, .int .i64 cp] 117)) from al (Below.refl _ _) _).block P (lt_of_block B11.out)).trans B11.out)
  have B22 := hide (((show Below w1.heap.size w1 (w1.alloc (.cells #[.int .i64 (K : Nat), .string ⟨cnm.toArray⟩, .string ⟨ctx.toArray⟩, .slice a3 npre c3, .slice a4 nsp c4, .slice a5 nns c5, .slice a6 nk c6, .int .i64 cp] 117)) from al (Below.refl _ _) _).block R (lt_of_block B21.out)).trans B21.out)
  have BX := hide (heap_alloc_new w1 (.cells #[.int .i64 (K : Nat), .string ⟨cnm.toArray⟩, .string ⟨ctx.toArray⟩, .slice a3 npre c3, .slice a4 nsp c4, .slice a5 nns c5, .slice a6 nk c6, .int .i64 cp] 117))
  obtain ⟨S, hS⟩ : ∃ S, S = w1.heap.size := ⟨_, rfl⟩
  go_upto_region 4 with fail
  rw [← hS] at BX ⊢
  clear hS q0 q1 q2 q3 q4 q5 q6 q7 B11 B21
  generalize w1.alloc (.cells #[.int .i64 (K : Nat), .string ⟨cnm.toArray⟩, .string ⟨ctx.toArray⟩, .slice a3 npre c3, .slice a4 nsp c4, .slice a5 nns c5, .slice a6 nk c6, .int .i64 cp] 117) = W2 at *
  have hmf : ∀ (fn : Fn) (first cap : Array Value) (w : World), (Instr.makeFunc fn first cap).run Tryz.prog w = .ok (.func fn first cap) w := fun _ _ _ _ => rfl
  obtain ⟨hzv, hsz⟩ := zero_of_info info119
  have HAL := hide (mr_all S)
  have HSZ := hide (mr_size S)
  have hsz0 : mz.size = 13 := rfl
  obtain ⟨z, hz⟩ : ∃ z, z = mz := ⟨_, rfl⟩
  rw [← hz] at hzv hsz0
  have HI : Hid ((Tryz.prog.info? 119).map (·.size) = some (mr S).size) := by unfold Hid; rw [hsz, HSZ.out]
  have HZ2 : Hid (z.size = (mr S).size) := by unfold Hid; rw [HSZ.out]; exact hsz0
  clear hz hsz hsz0
  have BZ := hide (heap_alloc_new W2 (.cells z 119))
  have XZ := hide (show Below W2.heap.size W2 (W2.alloc (.cells z 119)) from al (Below.refl _ _) _)
  go_upto_region 5 with (first | (refine wpList_build119 S rfl rfl rfl rfl rfl rfl rfl rfl ?_) | (refine wpList_store_row rfl 119 (.tmp 5) (.tmp 37) rfl W2.heap.size (mr S) rfl rfl 119 z BZ.out HI.out HZ2.out HAL.out ?_))
  have HA := hide (setRow_heap _ W2.heap.size z (mr S) 119 (0, 0) BZ.out)
  have HY := hide (below_setRow XZ.out (Nat.le_refl _) (mr S))
  clear hmf hzv HAL HSZ HI HZ2 BZ XZ
  obtain ⟨A, hA⟩ : ∃ A, A = W2.heap.size := ⟨_, rfl⟩
  have B13 := hide ((HY.out.block P (lt_of_block B12.out)).trans B12.out)
  have B23 := hide ((HY.out.block R (lt_of_block B22.out)).trans B22.out)
  have BX3 := hide ((HY.out.block S (lt_of_block BX.out)).trans BX.out)
  have X3 := hide (bt X2.out HY.out (Nat.le_refl _))
  rw [← hA] at HA X3 B13 B23 BX3 ⊢
  clear HY hA B12 B22 BX X2
  generalize (W2.alloc (.cells z 119)).setRow A (mr S) = W3 at *
  have r0 : W3.cell? ⟨P, 0, none⟩ = some (.int .i64 (K : Nat)) := by rw [cell_of_row _ _ _ _ _ _ B13.out]; rfl
  have rA : W3.cell? ⟨A, K, none⟩ = some (.func (.func (56 + K)) #[.pointer (some ⟨S, 0, none⟩)] #[]) := by rw [cell_of_row _ _ _ _ _ _ HA.out]; exact HMG.out S
  have HMM := hide (HMK.out W3 S X3.out BX3.out)
  clear HMG HMK HA BX3
  generalize 56 + K = ka at *
  go_wp2_with (fail)
  refine HMM.out.mono ?_
  rintro e w4 ⟨⟨a, rfl, ha, hat⟩, x4⟩
  have B14 := hide ((x4.block P (lt_of_block B13.out)).trans B13.out)
  have B24 := hide ((x4.block R (lt_of_block B23.out)).trans B23.out)
  have X4 := hide (bt X3.out x4 (Nat.le_refl _))
  have HPA := hide ha
  have HAT := hide hat
  have HR3 := hide (lt_of_block B23.out)
  have HS4 := hide x4.size
  have HX3S := hide X3.out.size
  clear ha hat x4 B13 B23 r0 rA HMM X3 hent
  have hca : a.cells = #[.int .i64 a.k, .string ⟨a.nm.toArray⟩, .slice a.so a.sp.length a.sc, .slice a.no a.ns.length a.nc, .slice a.po a.D.length a.pc] := rfl
  rw [hca]
  clear hca
  have HLW3 : Hid (w.heap.size ≤ R ∧ R < W3.heap.size ∧ W3.heap.size ≤ w4.heap.size ∧ w.heap.size ≤ W3.heap.size) := ⟨HRW.out, HR3.out, HS4.out, HX3S.out⟩
  have HFIN : Hid (∀ (e : Ending) (V : World), e = .returned (.tuple #[.agg #[.int .i64 (K : Nat), .string ⟨a.nm.toArray⟩, .slice a.so a.sp.length a.sc, .slice a.no a.ns.length a.nc, .slice a.po a.D.length a.pc], .bool true]) → L5.Kept (fun k => k = R ∨ w4.heap.size ≤ k) w4 V → (∃ a : L5.AD, e = .returned (.tuple #[.agg ({ a with k := (K : Int) } : L5.AD).cells, .bool true]) ∧ Pa a ∧ AtF V w.heap.size a) ∧ Below w.heap.size w V) := fun e V he hk => by
    have hh := HLW3.out
    refine ⟨⟨a, he, HPA.out, (HAT.out.kept hk (fun k hf => by rcases hf with rfl | hf <;> omega)).mono (by omega)⟩, ?_⟩
    exact X4.out.trans (hk.below (by omega) (fun i hi => by rcases hi with rfl | hi <;> omega))
  have X5 := hide (show Below w4.heap.size w4 (w4.alloc (.cells #[.int .i64 a.k, .string ⟨a.nm.toArray⟩, .slice a.so a.sp.length a.sc, .slice a.no a.ns.length a.nc, .slice a.po a.D.length a.pc] 35)) from al (Below.refl _ _) _)
  have BT := hide (heap_alloc_new w4 (.cells #[.int .i64 a.k, .string ⟨a.nm.toArray⟩, .slice a.so a.sp.length a.sc, .slice a.no a.ns.length a.nc, .slice a.po a.D.length a.pc] 35))
  have B15 := hide ((X5.out.block P (lt_of_block B14.out)).trans B14.out)
  have B25 := hide ((X5.out.block R (lt_of_block B24.out)).trans B24.out)
  have HK5 : Hid (L5.Kept (fun k => k = R ∨ w4.heap.size ≤ k) w4 (w4.alloc (.cells #[.int .i64 a.k, .string ⟨a.nm.toArray⟩, .slice a.so a.sp.length a.sc, .slice a.no a.ns.length a.nc, .slice a.po a.D.length a.pc] 35))) := L5.Kept.of_below X5.out
  obtain ⟨T, hT⟩ : ∃ T, T = w4.heap.size := ⟨_, rfl⟩
  have HTT : Hid (w4.heap.size ≤ T) := by unfold Hid; omega
  have HTR : Hid (R ≠ T) := by have := HLW3.out; unfold Hid; omega
  go_upto_region 6 with fail
  rw [← hT] at BT ⊢
  clear hT B14 B24 X5 HLW3 HAT HPA X4
  generalize w4.alloc (.cells #[.int .i64 a.k, .string ⟨a.nm.toArray⟩, .slice a.so a.sp.length a.sc, .slice a.no a.ns.length a.nc, .slice a.po a.D.length a.pc] 35) = W5 at *
  have r0 : W5.cell? ⟨P, 0, none⟩ = some (.int .i64 (K : Nat)) := by rw [cell_of_row _ _ _ _ _ _ B15.out]; rfl
  have f0 := frozen_of_row W5 T 0 _ _ BT.out
  have t0 : W5.cell? ⟨T, 0, none⟩ = some (.int .i64 a.k) := (L5.five_of BT.out).1
  go_upto_region 7 with fail
  have BT2 : Hid ((W5.setCell ⟨T, 0, none⟩ (.int .i64 (K : Nat))).heap[T]? = some (.cells #[.int .i64 (K : Nat), .string ⟨a.nm.toArray⟩, .slice a.so a.sp.length a.sc, .slice a.no a.ns.length a.nc, .slice a.po a.D.length a.pc] 35 (0, 0))) := by
    have := block_setCell' BT.out 0 (.int .i64 (K : Nat))
    simpa [Hid] using this
  have B26 := hide ((((L5.Kept.refl (fun k => k = T) W5).setCell (p := ⟨T, 0, none⟩) rfl (.int .i64 (K : Nat))).block R (lt_of_block B25.out) HTR.out).trans B25.out)
  have HK6 := hide (HK5.out.setCell (p := ⟨T, 0, none⟩) (.inr HTT.out) (.int .i64 (K : Nat)))
  clear r0 f0 t0 BT B15 B25 HK5
  generalize W5.setCell ⟨T, 0, none⟩ (.int .i64 (K : Nat)) = W6 at *
  obtain ⟨t0, t1, t2, t3, t4⟩ := L5.five_of BT2.out
  obtain ⟨s0, s1, s2, s3, s4⟩ := L5.five_of B26.out
  have f0 := frozen_of_row W6 R 0 _ _ B26.out
  have f1 := frozen_of_row W6 R 1 _ _ B26.out
  have f2 := frozen_of_row W6 R 2 _ _ B26.out
  have f3 := frozen_of_row W6 R 3 _ _ B26.out
  have f4 := frozen_of_row W6 R 4 _ _ B26.out
  clear BT2 B26 HTR HTT
  go_wp2
  refine bodyPost_ret (v := .tuple #[.agg #[.int .i64 (K : Nat), .string ⟨a.nm.toArray⟩, .slice a.so a.sp.length a.sc, .slice a.no a.ns.length a.nc, .slice a.po a.D.length a.pc], .bool true]) ?_ rfl ?_
  · rw [results_cell_tmp rfl]
    go_simp
  · refine HFIN.out _ _ rfl ?_
    repeat (first | exact HK6.out | refine L5.Kept.setCell ?_ (.inl rfl) _)
end Go.Proofs.YthgikaklcglpiaaGreatDoor.L9
/-
  A request's method is right, by contract. No condition.
-/
namespace Go.Proofs.YthgikaklcglpiaaGreatDoor.L9
open Go.RowKit Go.Lib

theorem rmust (w : World) : Calls Tryz.prog 101 #[.bool true] w fun e w' => e = .returned (.tuple #[]) ∧ w' = w := by
  go_enter Tryz.func101, Tryz.ntmps101
  go_wp2
  go_end0
  first | done | exact ⟨rfl, rfl⟩
theorem rgreat (b : Nat) (w : World) (h1 : 65 ≤ b) (h2 : b ≤ 90) : Calls Tryz.prog 148 #[.int .u8 (b : Nat)] w fun e w' => e = .returned (.bool true) ∧ w' = w := by
  have h1' : (65 : Int) ≤ (b : Int) := by omega
  have h2' : (b : Int) ≤ 90 := by omega
  go_enter Tryz.func148, Tryz.ntmps148
  go_wp2
  go_ret
  exact ⟨rfl, rfl⟩
set_option maxRecDepth 100000 in
set_option maxHeartbeats 2000000 in
theorem rallGET (w : World) : Calls Tryz.prog 147 #[.string ⟨#[71, 69, 84]⟩, .func (.func 148) #[] #[]] w fun e w' => e = .returned (.tuple #[]) ∧ w' = w := by
  have hent : ∀ args w, (callFunc 148 args).run Tryz.prog w = .ok (.enter 148 args) w := enters_of Tryz.func148 (by kernel_rfl) rfl
  go_enter Tryz.func147, Tryz.ntmps147
  go_wp2
  go_loopg [4, 7] 4 (fun g x4 x wr => ∃ k : Nat, x = .int .i64 (k : Nat) ∧ k ≤ 3 ∧ wr = w ∧ 3 - k < g)
  case atStart => exact ⟨0, rfl, by omega, rfl, by omega⟩
  case round =>
    obtain ⟨k, rfl, hk, hw, hg⟩ := hrel
    have HW := hide hw
    clear hw
    rcases (by omega : k = 0 ∨ k = 1 ∨ k = 2 ∨ k = 3) with rfl | rfl | rfl | rfl
    all_goals go_wp2_with (first | (go_at_call 148; refine (rgreat _ _ (by decide) (by decide)).mono ?_; rintro e w1 ⟨rfl, rfl⟩) | (go_at_call 101; refine (rmust _).mono ?_; rintro e w1 ⟨rfl, rfl⟩))
    · go_roundg 3
      case measure => omega
      case rel => exact ⟨1, by first | rfl | go_num, by omega, HW.out, by omega⟩
    · go_roundg 2
      case measure => omega
      case rel => exact ⟨2, by first | rfl | go_num, by omega, HW.out, by omega⟩
    · go_roundg 1
      case measure => omega
      case rel => exact ⟨3, by first | rfl | go_num, by omega, HW.out, by omega⟩
    · go_end0
      exact ⟨rfl, HW.out⟩
theorem rmethGET (w : World) : Calls Tryz.prog 100 #[.string ⟨#[71, 69, 84]⟩] w fun e w' => e = .returned (.tuple #[]) ∧ w' = w := by
  go_enter Tryz.func100, Tryz.ntmps100
  go_wp2_with (first | (go_at_call 147; refine (rallGET _).mono ?_; rintro e w1 ⟨rfl, rfl⟩) | (go_at_call 101; refine (rmust _).mono ?_; rintro e w1 ⟨rfl, rfl⟩))
  go_end0
  first | done | exact ⟨rfl, rfl⟩
end Go.Proofs.YthgikaklcglpiaaGreatDoor.L9
