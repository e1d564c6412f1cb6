/-
  The chapter's examples, call by call. No condition.
-/
import Derived.Test.YtkpdbbbeagnjpaaGreatDoorP15
import Derived.Shelf.Small.Utf8
import Derived.Shelf.Small.Strs
import Derived.Test.YtkpdbbbeagnjpaaGreatDoorProg
namespace Go.Proofs.YtkpdbbbeagnjpaaGreatDoor
open Go.RowKit Go.Lib

def sA : By := [108, 101, 116, 32, 97, 45, 49, 32, 61, 32, 34, 120, 92, 34, 121, 34, 59, 32, 35, 32, 122]
def sB : By := [97, 32, 34, 98]
theorem okA : okF sA 0 x0 sA = true := by kernel_rfl
theorem okB : okF sB 0 x0 sB = true := by kernel_rfl
def tkA : List Tk := [⟨1, [108, 101, 116], 0, 0, 0, 0⟩, ⟨2, [97, 45, 49], 0, 0, 0, 4⟩, ⟨7, [61], 0, 0, 0, 8⟩, ⟨6, [120, 34, 121], 0, 0, 0, 10⟩, ⟨7, [59], 0, 0, 0, 16⟩, ⟨8, [], 0, 0, 0, 21⟩]
theorem scanA : scanP sA = .ok tkA := by kernel_rfl
theorem scanB : scanP sB = .error (83, 2) := by kernel_rfl
theorem quoA : quoP [97, 34] = (0, [34, 97, 92, 34, 34]) := by kernel_rfl
theorem quoB : quoP [10] = (1, []) := by kernel_rfl
theorem nmA1 : nmB [97, 95, 45, 49] = true := by kernel_rfl
theorem nmA2 : nmB [119, 104, 101, 110] = false := by kernel_rfl
theorem wdA1 : wdB [119, 104, 101, 110] = true := by kernel_rfl
theorem wdA2 : wdB [97] = false := by kernel_rfl
theorem lenA : sA.length ≤ 8000 := of_decide_eq_true (by kernel_rfl)
theorem lenB : sB.length ≤ 8000 := of_decide_eq_true (by kernel_rfl)
theorem awakeA (w : World) : Calls Tryz.prog 8 #[.string ⟨#[108, 101, 116, 32, 97, 45, 49, 32, 61, 32, 34, 120, 92, 34, 121, 34, 59, 32, 35, 32, 122]⟩] w fun e w' => (∃ g cap, e = .returned (.tuple #[.slice (some ⟨g, 0, none⟩) 6 cap, .int .i64 0, .int .i64 0]) ∧ w'.ownsRow w.heap.size 40 6 (.slice (some ⟨g, 0, none⟩) 6 cap) 6 (tkC tkA)) ∧ Below w.heap.size w w' := by
  have h0 := scan_ok sA w lenA okA
  have h1 : Calls Tryz.prog 8 #[.string ⟨#[108, 101, 116, 32, 97, 45, 49, 32, 61, 32, 34, 120, 92, 34, 121, 34, 59, 32, 35, 32, 122]⟩] w fun e w' => ScnP sA w.heap.size e w' ∧ Below w.heap.size w w' := h0
  refine h1.mono ?_
  rintro e w' ⟨h, x⟩
  unfold ScnP at h
  rw [scanA] at h
  obtain ⟨tv, rfl, ho⟩ := h
  have hl : tkA.length = 6 := rfl
  rw [hl] at ho
  obtain ⟨ao, cap, e1, hg⟩ := own_shape ho
  obtain ⟨g, e2⟩ := hg (by omega)
  subst e1 e2
  exact ⟨⟨g, cap, rfl, ho⟩, x⟩
theorem awakeB (W : World) : Calls Tryz.prog 8 #[.string ⟨#[97, 32, 34, 98]⟩] W fun e w' => e = .returned (.tuple #[.slice none 0 0, .int .i64 83, .int .i64 2]) ∧ Below W.heap.size W w' := by
  have h1 : Calls Tryz.prog 8 #[.string ⟨#[97, 32, 34, 98]⟩] W fun e w' => ScnP sB W.heap.size e w' ∧ Below W.heap.size W w' := scan_ok sB W lenB okB
  refine h1.mono ?_
  rintro e w' ⟨h, x⟩
  unfold ScnP at h
  rw [scanB] at h
  exact ⟨h, x⟩
theorem awakeQ1 (W : World) : Calls Tryz.prog 12 #[.string ⟨#[97, 34]⟩] W fun e w' => e = .returned (.tuple #[.string ⟨#[34, 97, 92, 34, 34]⟩, .int .i64 0]) ∧ Below W.heap.size W w' := by
  have := quote_any [97, 34] W (by simp)
  rw [quoA] at this
  exact this
theorem awakeQ2 (W : World) : Calls Tryz.prog 12 #[.string ⟨#[10]⟩] W fun e w' => e = .returned (.tuple #[.string ⟨#[]⟩, .int .i64 1]) ∧ Below W.heap.size W w' := by
  have := quote_any [10] W (by simp)
  rw [quoB] at this
  exact this
theorem awakeN1 (W : World) : Calls Tryz.prog 16 #[.string ⟨#[97, 95, 45, 49]⟩] W fun e w' => e = .returned (.bool true) ∧ Below W.heap.size W w' := by
  have := isName_any [97, 95, 45, 49] W (by simp)
  rw [nmA1] at this
  exact this
theorem awakeN2 (W : World) : Calls Tryz.prog 16 #[.string ⟨#[119, 104, 101, 110]⟩] W fun e w' => e = .returned (.bool false) ∧ Below W.heap.size W w' := by
  have := isName_any [119, 104, 101, 110] W (by simp)
  rw [nmA2] at this
  exact this
theorem awakeW1 (W : World) : Calls Tryz.prog 14 #[.string ⟨#[119, 104, 101, 110]⟩] W fun e w' => e = .returned (.bool true) ∧ w' = W := by
  have := isWord_any [119, 104, 101, 110] W
  rw [wdA1] at this
  exact this
theorem awakeW2 (W : World) : Calls Tryz.prog 14 #[.string ⟨#[97]⟩] W fun e w' => e = .returned (.bool false) ∧ w' = W := by
  have := isWord_any [97] W
  rw [wdA2] at this
  exact this
theorem eqT0 (w : World) : (Op.equalIn 10000 40 (.agg #[.int .i64 1, .string ⟨#[108, 101, 116]⟩, .int .i64 0, .int .i64 0, .int .i64 0, .int .i64 0]) (.agg #[.int .i64 1, .string ⟨#[108, 101, 116]⟩, .int .i64 0, .int .i64 0, .int .i64 0, .int .i64 0])).run Tryz.prog w = .ok true w := by kernel_rfl
theorem eqT1 (w : World) : (Op.equalIn 10000 40 (.agg #[.int .i64 6, .string ⟨#[120, 34, 121]⟩, .int .i64 0, .int .i64 0, .int .i64 0, .int .i64 10]) (.agg #[.int .i64 6, .string ⟨#[120, 34, 121]⟩, .int .i64 0, .int .i64 0, .int .i64 0, .int .i64 10])).run Tryz.prog w = .ok true w := by kernel_rfl
theorem eqT2 (w : World) : (Op.equalIn 10000 40 (.agg #[.int .i64 8, .string ⟨#[]⟩, .int .i64 0, .int .i64 0, .int .i64 0, .int .i64 21]) (.agg #[.int .i64 8, .string ⟨#[]⟩, .int .i64 0, .int .i64 0, .int .i64 0, .int .i64 21])).run Tryz.prog w = .ok true w := by kernel_rfl
theorem eqB0 (w : World) : (binOp .eql 40 (.agg #[.int .i64 1, .string ⟨#[108, 101, 116]⟩, .int .i64 0, .int .i64 0, .int .i64 0, .int .i64 0]) (.agg #[.int .i64 1, .string ⟨#[108, 101, 116]⟩, .int .i64 0, .int .i64 0, .int .i64 0, .int .i64 0])).run Tryz.prog w = .ok (.bool true) w := by kernel_rfl
theorem eqB1 (w : World) : (binOp .eql 40 (.agg #[.int .i64 6, .string ⟨#[120, 34, 121]⟩, .int .i64 0, .int .i64 0, .int .i64 0, .int .i64 10]) (.agg #[.int .i64 6, .string ⟨#[120, 34, 121]⟩, .int .i64 0, .int .i64 0, .int .i64 0, .int .i64 10])).run Tryz.prog w = .ok (.bool true) w := by kernel_rfl
theorem eqB2 (w : World) : (binOp .eql 40 (.agg #[.int .i64 8, .string ⟨#[]⟩, .int .i64 0, .int .i64 0, .int .i64 0, .int .i64 21]) (.agg #[.int .i64 8, .string ⟨#[]⟩, .int .i64 0, .int .i64 0, .int .i64 0, .int .i64 21])).run Tryz.prog w = .ok (.bool true) w := by kernel_rfl
theorem tkA_cells : tkC tkA = [.int .i64 1, .string ⟨#[108, 101, 116]⟩, .int .i64 0, .int .i64 0, .int .i64 0, .int .i64 0, .int .i64 2, .string ⟨#[97, 45, 49]⟩, .int .i64 0, .int .i64 0, .int .i64 0, .int .i64 4, .int .i64 7, .string ⟨#[61]⟩, .int .i64 0, .int .i64 0, .int .i64 0, .int .i64 8, .int .i64 6, .string ⟨#[120, 34, 121]⟩, .int .i64 0, .int .i64 0, .int .i64 0, .int .i64 10, .int .i64 7, .string ⟨#[59]⟩, .int .i64 0, .int .i64 0, .int .i64 0, .int .i64 16, .int .i64 8, .string ⟨#[]⟩, .int .i64 0, .int .i64 0, .int .i64 0, .int .i64 21] := by kernel_rfl
end Go.Proofs.YtkpdbbbeagnjpaaGreatDoor
/-
  awake: some of the chapter's examples answer as they must. No condition.
-/
namespace Go.Proofs.YtkpdbbbeagnjpaaGreatDoor
open Go.RowKit Go.Lib

set_option maxHeartbeats 4000000 in
set_option maxRecDepth 100000 in
theorem awake_any (w : World) : Calls Tryz.prog 7 #[] w fun e w' => e = .returned (.bool true) ∧ Below w.heap.size w w' := by
  have HA := hide (awakeA w)
  have HB := hide awakeB
  have HQ1 := hide awakeQ1
  have HQ2 := hide awakeQ2
  have HN1 := hide awakeN1
  have HN2 := hide awakeN2
  have HW1 := hide awakeW1
  have HW2 := hide awakeW2
  go_enter Tryz.func7, Tryz.ntmps7
  go_upto_region 2 with (go_at_call 8; refine HA.out.mono ?_; rintro e w1 ⟨⟨g, cap, rfl, ho⟩, x1⟩; have HO := hide ho; have X1 := hide x1; clear ho x1)
  have HC : Hid (∀ V, Below w1.heap.size w1 V → V.cell? ⟨g, 0, none⟩ = some (.int .i64 1) ∧ V.cell? ⟨g, 1, none⟩ = some (.string ⟨#[108, 101, 116]⟩) ∧ V.cell? ⟨g, 2, none⟩ = some (.int .i64 0) ∧ V.cell? ⟨g, 3, none⟩ = some (.int .i64 0) ∧ V.cell? ⟨g, 4, none⟩ = some (.int .i64 0) ∧ V.cell? ⟨g, 5, none⟩ = some (.int .i64 0) ∧ V.cell? ⟨g, 18, none⟩ = some (.int .i64 6) ∧ V.cell? ⟨g, 19, none⟩ = some (.string ⟨#[120, 34, 121]⟩) ∧ V.cell? ⟨g, 20, none⟩ = some (.int .i64 0) ∧ V.cell? ⟨g, 21, none⟩ = some (.int .i64 0) ∧ V.cell? ⟨g, 22, none⟩ = some (.int .i64 0) ∧ V.cell? ⟨g, 23, none⟩ = some (.int .i64 10) ∧ V.cell? ⟨g, 30, none⟩ = some (.int .i64 8) ∧ V.cell? ⟨g, 31, none⟩ = some (.string ⟨#[]⟩) ∧ V.cell? ⟨g, 32, none⟩ = some (.int .i64 0) ∧ V.cell? ⟨g, 33, none⟩ = some (.int .i64 0) ∧ V.cell? ⟨g, 34, none⟩ = some (.int .i64 0) ∧ V.cell? ⟨g, 35, none⟩ = some (.int .i64 21)) := fun V y => by
    have o := own_below HO.out y
    rw [tkA_cells] at o
    have key := fun (j : Nat) (u : Value) hu => by
      have := o.cells (g := g) rfl j u hu
      rw [show (⟨g, 0, none⟩ : Addr).add j = ⟨g, 0 + j, none⟩ by unfold Addr.add; split <;> simp_all, Nat.zero_add] at this
      exact this
    exact ⟨key 0 _ rfl, key 1 _ rfl, key 2 _ rfl, key 3 _ rfl, key 4 _ rfl, key 5 _ rfl, key 18 _ rfl, key 19 _ rfl, key 20 _ rfl, key 21 _ rfl, key 22 _ rfl, key 23 _ rfl, key 30 _ rfl, key 31 _ rfl, key 32 _ rfl, key 33 _ rfl, key 34 _ rfl, key 35 _ rfl⟩
  clear HO HA
  go_upto_region 3 with (go_at_call 8; refine (HB.out _).mono ?_; rintro e w2 ⟨rfl, x2⟩; have X2 := hide x2; clear x2)
  go_upto_region 4 with (go_at_call 12; refine (HQ1.out _).mono ?_; rintro e w3 ⟨rfl, x3⟩; have X3 := hide (bt X2.out x3 (Nat.le_refl _)); clear x3)
  go_upto_region 5 with (go_at_call 12; refine (HQ2.out _).mono ?_; rintro e w4 ⟨rfl, x4⟩; have X4 := hide (bt X3.out x4 (Nat.le_refl _)); clear x4)
  clear HB HQ1 HQ2
  obtain ⟨k0, k1, k2, k3, k4, k5, k18, k19, k20, k21, k22, k23, k30, k31, k32, k33, k34, k35⟩ := HC.out w4 X4.out
  go_upto_region 7 with fail
  have q0 := eqB0
  have q1 := eqB1
  have q2 := eqB2
  go_wp2_with (fail)
  refine (HN1.out _).mono ?_
  rintro e w5 ⟨rfl, x5⟩
  have X5 := hide (bt X4.out x5 (Nat.le_refl _))
  clear x5 HN1 q0 q1 q2
  go_wp2_with (fail)
  refine (HN2.out _).mono ?_
  rintro e w6 ⟨rfl, x6⟩
  have X6 := hide (bt X5.out x6 (Nat.le_refl _))
  clear x6 HN2
  go_wp2_with (fail)
  refine (HW1.out _).mono ?_
  rintro e w7 ⟨rfl, hw7⟩
  subst hw7
  clear HW1
  go_wp2_with (fail)
  refine (HW2.out _).mono ?_
  rintro e w8 ⟨rfl, hw8⟩
  subst hw8
  go_wp2
  go_ret
  exact ⟨rfl, bt X1.out X6.out (Nat.le_refl _)⟩
end Go.Proofs.YtkpdbbbeagnjpaaGreatDoor
/-
  Contracts of utf8.ValidRune and strings.IndexByte at this program, laid off the library by its own tool. Conditions: as each says.
-/
namespace Go.Proofs
open Go.Shelf
def Tryz.lays119_ren : Go.Shelf.Ren := ⟨fun | 119 => 84 | n => n, fun | 21 => 21 | 4 => 4 | n => n, fun | n => n⟩
theorem Tryz.lays119 : Go.Proofs.Lays.n119 Tryz.prog Tryz.lays119_ren := {
  mixed := by kernel_rfl
  f119 := Tryz.func84.trans (congrArg some (by kernel_rfl))
  t4 := Tryz.underlying4
  a4 := Tryz.isAgg4
  z4 := Tryz.sizeOf4
  v4 := Tryz.zeroValue4
  t21 := Tryz.underlying21
  a21 := Tryz.isAgg21
  z21 := Tryz.sizeOf21
  v21 := Tryz.zeroValue21 }
theorem Tryz.utf8_ValidRune (r : Int) (w : World) :
    Calls Tryz.prog 84 #[.int .i32 r] w fun e w' => e = .returned (.bool (Lib.validRune r)) ∧ w' = w := Any.utf8_ValidRune Tryz.lays119 r w
def Tryz.lays137_ren : Go.Shelf.Ren := ⟨fun | 137 => 83 | 217 => 96 | 266 => 102 | n => n, fun | 9 => 9 | 5 => 5 | 3 => 3 | n => n, fun | n => n⟩
theorem Tryz.lays137 : Go.Proofs.Lays.n137 Tryz.prog Tryz.lays137_ren := {
  mixed := by kernel_rfl
  f137 := Tryz.func83.trans (congrArg some (by kernel_rfl))
  f217 := Tryz.func96.trans (congrArg some (by kernel_rfl))
  f266 := Tryz.func102.trans (congrArg some (by kernel_rfl))
  t3 := Tryz.underlying3
  a3 := Tryz.isAgg3
  z3 := Tryz.sizeOf3
  v3 := Tryz.zeroValue3
  t5 := Tryz.underlying5
  a5 := Tryz.isAgg5
  z5 := Tryz.sizeOf5
  v5 := Tryz.zeroValue5
  t9 := Tryz.underlying9
  a9 := Tryz.isAgg9
  z9 := Tryz.sizeOf9
  v9 := Tryz.zeroValue9 }
open Go.RowKit in
theorem Tryz.strings_IndexByte (s : ByteArray) (c : Int) (w : World) :
    Calls Tryz.prog 83 #[.string s, .int .u8 c] w fun e w' => e = .returned (.int .i64 (Lib.indexByte s.data.toList c.toNat.toUInt8)) ∧ w' = w := Any.strings_IndexByte Tryz.lays137 s c w
end Go.Proofs
