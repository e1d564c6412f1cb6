/-
  alike by its contract. Conditions: tokens that are alike if there are as many; at most 2^32.
-/
import Derived.Test.YtkpdbbbeagnjpaaGreatDoorP38
import Derived.Test.YtkpdbbbeagnjpaaGreatDoorP06
import Derived.Deep.RegionHeld3
namespace Go.Proofs.YtkpdbbbeagnjpaaGreatDoor
open Go.RowKit Go.Lib

set_option maxHeartbeats 1000000 in
set_option maxRecDepth 100000 in
theorem alike_any (L M : List Tk) (va vb : Value) (base base2 : Nat) (w : World) (ha : w.ownsRow base 40 6 va L.length (tkC L)) (hb : w.ownsRow base2 40 6 vb M.length (tkC M)) (hl : L.length ≤ 4294967296) (hq : L.length = M.length → L.map bareT = M.map bareT) :
    Calls Tryz.prog 18 #[va, vb] w fun e w' => e = .returned (.bool (decide (L.length = M.length))) ∧ Below w.heap.size w w' := by
  obtain ⟨ao, ca, e1, ga⟩ := own_shape ha
  obtain ⟨bo, cb, e2, gb⟩ := own_shape hb
  subst e1 e2
  by_cases hlm : L.length = M.length
  · have HQ := hide (hq hlm)
    have hd : decide (L.length = M.length) = true := by simp [hlm]
    rw [hd]
    clear hd hq
    rw [← hlm] at hb gb
    have HLM := hide hlm
    rw [← hlm]
    clear hlm
    have HA := hide ha
    have HB := hide hb
    have GA := hide ga
    have GB := hide gb
    clear ha hb ga gb
    go_enter Tryz.func18, Tryz.ntmps18
    go_wp2
    go_loopg [5] (L.length + 1) (fun g x wr => ∃ i : Nat, x = .int .i64 (i : Nat) ∧ i ≤ L.length ∧ Hid (Below w.heap.size w wr) ∧ L.length - i < g)
    case atStart => exact ⟨0, rfl, by omega, Below.refl _ _, by omega⟩
    case round =>
      obtain ⟨i, rfl, hi1, XR, hg⟩ := hrel
      have HG := hide hg
      clear hg
      by_cases hi : i < L.length
      · have hi' : (i : Int) < (L.length : Int) := by omega
        obtain ⟨g1, hg1⟩ := GA.out (by omega)
        obtain ⟨g2, hg2⟩ := GB.out (by omega)
        subst hg1 hg2
        obtain ⟨x, hx⟩ : ∃ x, L[i] = x := ⟨_, rfl⟩
        obtain ⟨y, hy⟩ : ∃ y, M[i]'(by have := HLM.out; omega) = y := ⟨_, rfl⟩
        have HXY : Hid (bareT x = bareT y) := by
          have := congrArg (fun l => l[i]?) HQ.out
          simp only [List.getElem?_map, List.getElem?_eq_getElem hi, List.getElem?_eq_getElem (show i < M.length by have := HLM.out; omega), Option.map_some] at this
          rw [← hx, ← hy]
          exact Option.some.inj this
        obtain ⟨A, hA⟩ : ∃ A, A = tkV (bareT x) := ⟨_, rfl⟩
        have HE : ∀ W, (Op.equalIn 10000 40 (.agg A) (.agg A)).run Tryz.prog W = .ok true W := fun W => by rw [hA]; exact eq40 _ W
        have HC1 : Hid (∀ W, Calls Tryz.prog 32 #[.agg #[.int .i64 x.k, .string ⟨x.t.toArray⟩, .int .i64 x.n, .int .i64 x.a, .int .i64 x.b, .int .i64 x.p]] W fun e w' => e = .returned (.agg A) ∧ Below W.heap.size W w') := fun W => by rw [hA]; exact bare_any x W
        have HC2 : Hid (∀ W, Calls Tryz.prog 32 #[.agg #[.int .i64 y.k, .string ⟨y.t.toArray⟩, .int .i64 y.n, .int .i64 y.a, .int .i64 y.b, .int .i64 y.p]] W fun e w' => e = .returned (.agg A) ∧ Below W.heap.size W w') := fun W => by rw [hA, HXY.out]; exact bare_any y W
        clear hA
        have HRD : Hid (∀ V, Below w.heap.size w V → (V.cell? ⟨g1, i * 6, none⟩ = some (.int .i64 x.k) ∧ V.cell? ⟨g1, i * 6 + 1, none⟩ = some (.string ⟨x.t.toArray⟩) ∧ V.cell? ⟨g1, i * 6 + 2, none⟩ = some (.int .i64 x.n) ∧ V.cell? ⟨g1, i * 6 + 3, none⟩ = some (.int .i64 x.a) ∧ V.cell? ⟨g1, i * 6 + 4, none⟩ = some (.int .i64 x.b) ∧ V.cell? ⟨g1, i * 6 + 5, none⟩ = some (.int .i64 x.p)) ∧ (V.cell? ⟨g2, i * 6, none⟩ = some (.int .i64 y.k) ∧ V.cell? ⟨g2, i * 6 + 1, none⟩ = some (.string ⟨y.t.toArray⟩) ∧ V.cell? ⟨g2, i * 6 + 2, none⟩ = some (.int .i64 y.n) ∧ V.cell? ⟨g2, i * 6 + 3, none⟩ = some (.int .i64 y.a) ∧ V.cell? ⟨g2, i * 6 + 4, none⟩ = some (.int .i64 y.b) ∧ V.cell? ⟨g2, i * 6 + 5, none⟩ = some (.int .i64 y.p))) := fun V hV => ⟨tk_at (own_below HA.out hV) hi hx, tk_at (own_below HB.out hV) (by have := HLM.out; omega) hy⟩
        have f1 : IntKind.i64.wrap ((i : Int) + 1) = (i : Int) + 1 := by rw [show (i : Int) + 1 = ((i + 1 : Nat) : Int) by simp]; simp [IntKind.wrap, IntKind.bits, IntKind.signed]; omega
        clear hx hy
        go_upto_region 6 with fail
        obtain ⟨⟨a0, a1, a2, a3, a4, a5⟩, b0, b1, b2, b3, b4, b5⟩ := HRD.out wr XR.out
        have XD := hide (Below.drew XR.out)
        clear XR
        go_region_with (first | (go_at_call 32; refine (HC1.out _).mono ?_; clear HC1; rintro e wz ⟨rfl, xz⟩; (first | (have XZ := hide (bt XD.out xz (Nat.le_refl _)); clear XD) | (have XZ := hide (bt XR2.out xz (Nat.le_refl _)); clear XR2)); clear xz; (try clear a0 a1 a2 a3 a4 a5 b0 b1 b2 b3 b4 b5); obtain ⟨⟨a0, a1, a2, a3, a4, a5⟩, b0, b1, b2, b3, b4, b5⟩ := HRD.out wz XZ.out; have XR2 := XZ; clear XZ) | (go_at_call 32; refine (HC2.out _).mono ?_; clear HC2; rintro e wz ⟨rfl, xz⟩; (first | (have XZ := hide (bt XD.out xz (Nat.le_refl _)); clear XD) | (have XZ := hide (bt XR2.out xz (Nat.le_refl _)); clear XR2)); clear xz; (try clear a0 a1 a2 a3 a4 a5 b0 b1 b2 b3 b4 b5); obtain ⟨⟨a0, a1, a2, a3, a4, a5⟩, b0, b1, b2, b3, b4, b5⟩ := HRD.out wz XZ.out; have XR2 := XZ; clear XZ))
        all_goals
          clear a0 a1 a2 a3 a4 a5 b0 b1 b2 b3 b4 b5
          go_wp2
          go_roundg (L.length - (i + 1) + 1)
          case measure => have := HG.out; omega
          case rel => exact ⟨i + 1, by first | rfl | go_num | (congr 1; omega), by omega, XR2, by omega⟩
      · obtain rfl : i = L.length := by omega
        have hi' : ¬ (L.length : Int) < (L.length : Int) := by omega
        go_wp2
        go_ret
        exact ⟨rfl, XR.out⟩
  · have hd : decide (L.length = M.length) = false := by simp [hlm]
    have hz : ((L.length : Int) != (M.length : Int)) = true := by simp; omega
    rw [hd]
    clear hq
    go_enter Tryz.func18, Tryz.ntmps18
    go_wp2
    go_ret
    exact ⟨rfl, Below.refl _ _⟩
end Go.Proofs.YtkpdbbbeagnjpaaGreatDoor
