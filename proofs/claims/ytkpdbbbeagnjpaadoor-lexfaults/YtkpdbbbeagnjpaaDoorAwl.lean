/-
  The chapter's examples, call by call. No condition.
-/
import Derived.Test.YtkpdbbbeagnjpaaDoorQuo
namespace Go.Proofs.YtkpdbbbeagnjpaaDoor
open Go.RowKit Go.Lib

def sA : By := [108, 101, 116, 32, 97, 45, 49, 32, 61, 32, 34, 120, 92, 34, 121, 34, 59, 32, 35, 32, 122]
def sB : By := [97, 32, 34, 98]
theorem okA : okF sA 0 x0 sA = true := by kernel_rfl
theorem okB : okF sB 0 x0 sB = true := by kernel_rfl
def tkA : List Tk := [⟨1, [108, 101, 116], 0, 0, 0, 0⟩, ⟨2, [97, 45, 49], 0, 0, 0, 4⟩, ⟨7, [61], 0, 0, 0, 8⟩, ⟨6, [120, 34, 121], 0, 0, 0, 10⟩, ⟨7, [59], 0, 0, 0, 16⟩, ⟨8, [], 0, 0, 0, 21⟩]
theorem scanA : scanP sA = .ok tkA := by kernel_rfl
theorem scanB : scanP sB = .error (83, 2) := by kernel_rfl
theorem quoA : quoP [97, 34] = (0, [34, 97, 92, 34, 34]) := by kernel_rfl
theorem quoB : quoP [10] = (1, []) := by kernel_rfl
theorem nmA1 : nmB [97, 95, 45, 49] = true := by kernel_rfl
theorem nmA2 : nmB [119, 104, 101, 110] = false := by kernel_rfl
theorem wdA1 : wdB [119, 104, 101, 110] = true := by kernel_rfl
theorem wdA2 : wdB [97] = false := by kernel_rfl
theorem lenA : sA.length ≤ 8000 := of_decide_eq_true (by kernel_rfl)
theorem lenB : sB.length ≤ 8000 := of_decide_eq_true (by kernel_rfl)
theorem awakeA (w : World) : Calls Tryd.prog 6 #[.string ⟨#[108, 101, 116, 32, 97, 45, 49, 32, 61, 32, 34, 120, 92, 34, 121, 34, 59, 32, 35, 32, 122]⟩] w fun e w' => (∃ g cap, e = .returned (.tuple #[.slice (some ⟨g, 0, none⟩) 6 cap, .int .i64 0, .int .i64 0]) ∧ w'.ownsRow w.heap.size 34 6 (.slice (some ⟨g, 0, none⟩) 6 cap) 6 (tkC tkA)) ∧ Below w.heap.size w w' := by
  have h0 := scan_ok sA w lenA okA
  have h1 : Calls Tryd.prog 6 #[.string ⟨#[108, 101, 116, 32, 97, 45, 49, 32, 61, 32, 34, 120, 92, 34, 121, 34, 59, 32, 35, 32, 122]⟩] w fun e w' => ScnP sA w.heap.size e w' ∧ Below w.heap.size w w' := h0
  refine h1.mono ?_
  rintro e w' ⟨h, x⟩
  unfold ScnP at h
  rw [scanA] at h
  obtain ⟨tv, rfl, ho⟩ := h
  have hl : tkA.length = 6 := rfl
  rw [hl] at ho
  obtain ⟨ao, cap, e1, hg⟩ := own_shape ho
  obtain ⟨g, e2⟩ := hg (by omega)
  subst e1 e2
  exact ⟨⟨g, cap, rfl, ho⟩, x⟩
theorem awakeB (W : World) : Calls Tryd.prog 6 #[.string ⟨#[97, 32, 34, 98]⟩] W fun e w' => e = .returned (.tuple #[.slice none 0 0, .int .i64 83, .int .i64 2]) ∧ Below W.heap.size W w' := by
  have h1 : Calls Tryd.prog 6 #[.string ⟨#[97, 32, 34, 98]⟩] W fun e w' => ScnP sB W.heap.size e w' ∧ Below W.heap.size W w' := scan_ok sB W lenB okB
  refine h1.mono ?_
  rintro e w' ⟨h, x⟩
  unfold ScnP at h
  rw [scanB] at h
  exact ⟨h, x⟩
theorem awakeQ1 (W : World) : Calls Tryd.prog 7 #[.string ⟨#[97, 34]⟩] W fun e w' => e = .returned (.tuple #[.string ⟨#[34, 97, 92, 34, 34]⟩, .int .i64 0]) ∧ Below W.heap.size W w' := by
  have := quote_any [97, 34] W (by simp)
  rw [quoA] at this
  exact this
theorem awakeQ2 (W : World) : Calls Tryd.prog 7 #[.string ⟨#[10]⟩] W fun e w' => e = .returned (.tuple #[.string ⟨#[]⟩, .int .i64 1]) ∧ Below W.heap.size W w' := by
  have := quote_any [10] W (by simp)
  rw [quoB] at this
  exact this
theorem awakeN1 (W : World) : Calls Tryd.prog 8 #[.string ⟨#[97, 95, 45, 49]⟩] W fun e w' => e = .returned (.bool true) ∧ Below W.heap.size W w' := by
  have := isName_any [97, 95, 45, 49] W (by simp)
  rw [nmA1] at this
  exact this
theorem awakeN2 (W : World) : Calls Tryd.prog 8 #[.string ⟨#[119, 104, 101, 110]⟩] W fun e w' => e = .returned (.bool false) ∧ Below W.heap.size W w' := by
  have := isName_any [119, 104, 101, 110] W (by simp)
  rw [nmA2] at this
  exact this
theorem awakeW1 (W : World) : Calls Tryd.prog 9 #[.string ⟨#[119, 104, 101, 110]⟩] W fun e w' => e = .returned (.bool true) ∧ w' = W := by
  have := isWord_any [119, 104, 101, 110] W
  rw [wdA1] at this
  exact this
theorem awakeW2 (W : World) : Calls Tryd.prog 9 #[.string ⟨#[97]⟩] W fun e w' => e = .returned (.bool false) ∧ w' = W := by
  have := isWord_any [97] W
  rw [wdA2] at this
  exact this
theorem eqT0 (w : World) : (Op.equalIn 10000 34 (.agg #[.int .i64 1, .string ⟨#[108, 101, 116]⟩, .int .i64 0, .int .i64 0, .int .i64 0, .int .i64 0]) (.agg #[.int .i64 1, .string ⟨#[108, 101, 116]⟩, .int .i64 0, .int .i64 0, .int .i64 0, .int .i64 0])).run Tryd.prog w = .ok true w := by kernel_rfl
theorem eqT1 (w : World) : (Op.equalIn 10000 34 (.agg #[.int .i64 6, .string ⟨#[120, 34, 121]⟩, .int .i64 0, .int .i64 0, .int .i64 0, .int .i64 10]) (.agg #[.int .i64 6, .string ⟨#[120, 34, 121]⟩, .int .i64 0, .int .i64 0, .int .i64 0, .int .i64 10])).run Tryd.prog w = .ok true w := by kernel_rfl
theorem eqT2 (w : World) : (Op.equalIn 10000 34 (.agg #[.int .i64 8, .string ⟨#[]⟩, .int .i64 0, .int .i64 0, .int .i64 0, .int .i64 21]) (.agg #[.int .i64 8, .string ⟨#[]⟩, .int .i64 0, .int .i64 0, .int .i64 0, .int .i64 21])).run Tryd.prog w = .ok true w := by kernel_rfl
theorem eqB0 (w : World) : (binOp .eql 34 (.agg #[.int .i64 1, .string ⟨#[108, 101, 116]⟩, .int .i64 0, .int .i64 0, .int .i64 0, .int .i64 0]) (.agg #[.int .i64 1, .string ⟨#[108, 101, 116]⟩, .int .i64 0, .int .i64 0, .int .i64 0, .int .i64 0])).run Tryd.prog w = .ok (.bool true) w := by kernel_rfl
theorem eqB1 (w : World) : (binOp .eql 34 (.agg #[.int .i64 6, .string ⟨#[120, 34, 121]⟩, .int .i64 0, .int .i64 0, .int .i64 0, .int .i64 10]) (.agg #[.int .i64 6, .string ⟨#[120, 34, 121]⟩, .int .i64 0, .int .i64 0, .int .i64 0, .int .i64 10])).run Tryd.prog w = .ok (.bool true) w := by kernel_rfl
theorem eqB2 (w : World) : (binOp .eql 34 (.agg #[.int .i64 8, .string ⟨#[]⟩, .int .i64 0, .int .i64 0, .int .i64 0, .int .i64 21]) (.agg #[.int .i64 8, .string ⟨#[]⟩, .int .i64 0, .int .i64 0, .int .i64 0, .int .i64 21])).run Tryd.prog w = .ok (.bool true) w := by kernel_rfl
theorem tkA_cells : tkC tkA = [.int .i64 1, .string ⟨#[108, 101, 116]⟩, .int .i64 0, .int .i64 0, .int .i64 0, .int .i64 0, .int .i64 2, .string ⟨#[97, 45, 49]⟩, .int .i64 0, .int .i64 0, .int .i64 0, .int .i64 4, .int .i64 7, .string ⟨#[61]⟩, .int .i64 0, .int .i64 0, .int .i64 0, .int .i64 8, .int .i64 6, .string ⟨#[120, 34, 121]⟩, .int .i64 0, .int .i64 0, .int .i64 0, .int .i64 10, .int .i64 7, .string ⟨#[59]⟩, .int .i64 0, .int .i64 0, .int .i64 0, .int .i64 16, .int .i64 8, .string ⟨#[]⟩, .int .i64 0, .int .i64 0, .int .i64 0, .int .i64 21] := by kernel_rfl
end Go.Proofs.YtkpdbbbeagnjpaaDoor
