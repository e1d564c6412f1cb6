/-
  The document's Make by its contract. Condition: a list is no longer than a process can hold.
-/
import Derived.Test.YtnfdjbaafiifnaaRgw
import Derived.Test.YtnfdjbaafiifnaaWth
import Derived.Deep.RegionWith
namespace Go.Proofs.Ytnfdjbaafiifnaa
open Go.RowKit Go.Lib

theorem withL_len (C : List Ct) (c : Ct) : (withL C c).length ≤ C.length + 1 := by
  unfold withL
  split
  · simp
  · split <;> simp
/-- What the document's Make tells. -/
def RmIs (L : List RZ) (e : Ending) : Prop := ((∃ R, L = zr R ∧ RtR none 0 R) ∧ ∃ b, e = .returned (.tuple #[.pointer (some ⟨b, 0, none⟩), .int .i64 0])) ∨ ((¬ ∃ R, L = zr R ∧ RtR none 0 R) ∧ e = .returned (.tuple #[.pointer none, .int .i64 40]))
set_option maxRecDepth 100000 in
set_option maxHeartbeats 4000000 in
theorem refMake_any (ao : Option Addr) (cap : Nat) (L : List RZ) (w : World) (hl : L.length ≤ 4294967296) (hat : RwAt w ao L) :
    Calls Try.prog 33 #[.slice ao L.length cap] w fun e w' => RmIs L e ∧ Below w.heap.size w w' := by
  have hr := refRightL_any ao cap L w (by omega) hat
  have HR := hide hr
  have HAT := hide hat
  clear hr hat
  go_enter Try.func33, Try.ntmps33
  go_wp2_with (fail)
  refine HR.out.mono ?_
  rintro e w1 ⟨⟨bo, rfl, hbo⟩, x1⟩
  have X1 := hide x1
  cases bo with
  | false =>
    have HF : Hid (RmIs L (.returned (.tuple #[.pointer none, .int .i64 40]))) := .inr ⟨fun h => (by have := hbo.2 h; cases this), rfl⟩
    clear hbo x1
    go_wp2
    go_ret2
    exact ⟨HF.out, X1.out⟩
  | true =>
    have HF : Hid (∀ b, RmIs L (.returned (.tuple #[.pointer (some ⟨b, 0, none⟩), .int .i64 0]))) := fun b => .inl ⟨hbo.1 rfl, b, rfl⟩
    have hP := heap_alloc_new w1 (.cells #[.slice none 0 0] 78)
    have hX2 := al x1 (.cells #[.slice none 0 0] 78)
    have HP := hide hP
    have HX2 := hide hX2
    have HS1 := hide x1.size
    clear hbo x1 hP hX2
    go_wp2
    go_loopw [6] (fun x wr => ∃ k : Nat, k ≤ L.length ∧ x = .int .i64 k ∧ ∃ v C, Hid (wr.heap[w1.heap.size]? = some (.cells #[v] 78 (0, 0))) ∧ Hid (OwnC wr w.heap.size v C) ∧ Hid (C.length ≤ k) ∧ Hid (Below w.heap.size w wr)) (fun x _ => L.length - (RowKit.intOf x).toNat)
    case atStart => exact ⟨0, Nat.zero_le _, rfl, _, [], HP, World.ownsRow_nil _ _ 75 2, Nat.le_refl _, HX2⟩
    case round =>
      obtain ⟨k, hk, rfl, v, C, HV, HC, HCL, X⟩ := hrel
      rename World => wr
      by_cases hlt : k < L.length
      · have hlt' : (k : Int) < (L.length : Int) := by omega
        rcases HAT.out with h | ⟨b, off, rfl, hb, hc⟩
        · rw [h] at hlt; simp at hlt
        obtain ⟨p1, _, p3⟩ := hc k hlt
        have hbw : b < wr.heap.size := Nat.lt_of_lt_of_le hb X.out.size
        have r1 := (X.out.cell (p := ⟨b, off + k * 3, none⟩) hb).trans p1
        have r3 := (X.out.cell (p := ⟨b, off + k * 3 + 2, none⟩) hb).trans p3
        generalize L.getD k ((0, 0), 0) = z at *
        obtain ⟨a2, c2, rfl, _⟩ := own_shape HC.out
        have t1 : wr.cell? ⟨w1.heap.size, 0, none⟩ = some (.slice a2 C.length c2) := by rw [cell_of_row wr w1.heap.size 0 _ _ _ HV.out]; rfl
        have htl := lt_of_block HV.out
        have HWT := hide (fun W (x : Below wr.heap.size wr W) => with_any (.slice a2 C.length c2) C z.1.1 z.2 w.heap.size W (Nat.le_trans X.out.size x.size) (by have := HCL.out; omega) (own_below HC.out x))
        clear hc p1 p3
        go_wp2
        go_region_with (first
          | (go_at_call 47; refine (HWT.out _ (Below.refl _ _).drew).mono ?_; rintro e w5 ⟨⟨v5, rfl, o5⟩, x5, F, k5, hF⟩; have B5 := hide ((k5.block w1.heap.size htl (fun hf => by obtain ⟨cs, h5⟩ := own_ty HC.out _ (hF _ hf); rw [HV.out] at h5; simp at h5)).trans HV.out); have c5 : w5.cell? ⟨w1.heap.size, 0, none⟩ = some (.slice a2 C.length c2) := (by rw [cell_of_row w5 w1.heap.size 0 _ _ _ B5.out]; rfl); have f5 := frozen_of_row w5 w1.heap.size 0 _ _ B5.out; have O5 := hide o5; have X5 := hide (X.out.trans ((Below.refl _ _).drew.trans x5)); obtain ⟨a5, d5, rfl, _⟩ := own_shape o5; clear o5 x5 k5 hF))
        all_goals
          have HLN := hide (withL_len C (z.1.1, z.2))
          have V6 := hide ((block_setCell B5.out 0 (.slice a5 (withL C (z.1.1, z.2)).length d5)))
          have C6 : Hid (OwnC (w5.setCell ⟨w1.heap.size, 0, none⟩ (.slice a5 (withL C (z.1.1, z.2)).length d5)) w.heap.size (.slice a5 (withL C (z.1.1, z.2)).length d5) (withL C (z.1.1, z.2))) := own_kept O5.out (Kept.setCell (F := fun x => x = w1.heap.size) (p := ⟨w1.heap.size, 0, none⟩) (Kept.refl _ _) rfl _) (fun x h3 h4 => by
            subst h4
            obtain ⟨cs, h5⟩ := own_ty O5.out _ h3
            have h6 := B5.out
            rw [h5] at h6
            simp at h6)
          have X6 := hide (X5.out.setCell (p := ⟨w1.heap.size, 0, none⟩) HS1.out (.slice a5 (withL C (z.1.1, z.2)).length d5))
          clear c5 f5
          go_wp2
          go_roundw
          case rel => exact ⟨k + 1, by omega, by go_num, _, _, V6, C6, by have := HLN.out; have := HCL.out; unfold Hid; omega, X6⟩
          case measure => simp [RowKit.intOf]; omega
      · have hnl : ¬ (k : Int) < (L.length : Int) := by omega
        go_wp2
        go_ret2
        exact ⟨HF.out _, X.out⟩
end Go.Proofs.Ytnfdjbaafiifnaa
