/-
  Holds of the kind of a negation, the reader's not by their contracts. Condition: conditions are read so.
-/
import Derived.Test.YtlmhofjiobmodaaGreatDoorQ17
import Derived.Test.YtlmhofjiobmodaaGreatDoorQ11
namespace Go.Proofs.YtlmhofjiobmodaaGreatDoor
open Go.RowKit Go.Lib

theorem ixo0 (w : World) : (Instr.index 152 (.agg #[.string ⟨#[111, 114]⟩, .int .i64 6, .int .i64 1, .string ⟨#[97, 110, 100]⟩, .int .i64 5, .int .i64 2, .string ⟨#[110, 111, 116]⟩, .int .i64 4, .int .i64 2]) (.int .i64 0)).run Tryz.prog w = .ok (.agg #[.string ⟨#[111, 114]⟩, .int .i64 6, .int .i64 1]) w := by kernel_rfl
theorem ixo1 (w : World) : (Instr.index 152 (.agg #[.string ⟨#[111, 114]⟩, .int .i64 6, .int .i64 1, .string ⟨#[97, 110, 100]⟩, .int .i64 5, .int .i64 2, .string ⟨#[110, 111, 116]⟩, .int .i64 4, .int .i64 2]) (.int .i64 1)).run Tryz.prog w = .ok (.agg #[.string ⟨#[97, 110, 100]⟩, .int .i64 5, .int .i64 2]) w := by kernel_rfl
theorem ixo2 (w : World) : (Instr.index 152 (.agg #[.string ⟨#[111, 114]⟩, .int .i64 6, .int .i64 1, .string ⟨#[97, 110, 100]⟩, .int .i64 5, .int .i64 2, .string ⟨#[110, 111, 116]⟩, .int .i64 4, .int .i64 2]) (.int .i64 2)).run Tryz.prog w = .ok (.agg #[.string ⟨#[110, 111, 116]⟩, .int .i64 4, .int .i64 2]) w := by kernel_rfl
set_option maxRecDepth 100000 in
set_option maxHeartbeats 2000000 in
theorem holds_four (w : World) : Calls Tryz.prog 138 #[.int .i64 4] w fun e w' => e = .returned (.int .i64 2) ∧ Below w.heap.size w w' := by
  have HO := hide (operators_any w)
  go_enter Tryz.func138, Tryz.ntmps138
  go_upto_region 2 with (go_at_call 116; refine HO.out.mono ?_; rintro e w1 ⟨rfl, x1⟩; have X1 := hide x1; clear x1)
  have HB := hide (heap_alloc_new w1 (.cells #[.string ⟨#[111, 114]⟩, .int .i64 6, .int .i64 1, .string ⟨#[97, 110, 100]⟩, .int .i64 5, .int .i64 2, .string ⟨#[110, 111, 116]⟩, .int .i64 4, .int .i64 2] 152))
  have X2 := hide (bt X1.out (show Below w1.heap.size w1 (w1.alloc (.cells #[.string ⟨#[111, 114]⟩, .int .i64 6, .int .i64 1, .string ⟨#[97, 110, 100]⟩, .int .i64 5, .int .i64 2, .string ⟨#[110, 111, 116]⟩, .int .i64 4, .int .i64 2] 152)) from al (Below.refl _ _) _) (Nat.le_refl _))
  generalize w1.alloc (.cells #[.string ⟨#[111, 114]⟩, .int .i64 6, .int .i64 1, .string ⟨#[97, 110, 100]⟩, .int .i64 5, .int .i64 2, .string ⟨#[110, 111, 116]⟩, .int .i64 4, .int .i64 2] 152) = w2 at *
  have q0 : w2.cell? ⟨w1.heap.size, 0, none⟩ = #[.string ⟨#[111, 114]⟩, .int .i64 6, .int .i64 1, .string ⟨#[97, 110, 100]⟩, .int .i64 5, .int .i64 2, .string ⟨#[110, 111, 116]⟩, .int .i64 4, .int .i64 2][0]? := by rw [cell_of_row _ _ _ _ _ _ HB.out]
  have q1 : w2.cell? ⟨w1.heap.size, 1, none⟩ = #[.string ⟨#[111, 114]⟩, .int .i64 6, .int .i64 1, .string ⟨#[97, 110, 100]⟩, .int .i64 5, .int .i64 2, .string ⟨#[110, 111, 116]⟩, .int .i64 4, .int .i64 2][1]? := by rw [cell_of_row _ _ _ _ _ _ HB.out]
  have q2 : w2.cell? ⟨w1.heap.size, 2, none⟩ = #[.string ⟨#[111, 114]⟩, .int .i64 6, .int .i64 1, .string ⟨#[97, 110, 100]⟩, .int .i64 5, .int .i64 2, .string ⟨#[110, 111, 116]⟩, .int .i64 4, .int .i64 2][2]? := by rw [cell_of_row _ _ _ _ _ _ HB.out]
  have q3 : w2.cell? ⟨w1.heap.size, 3, none⟩ = #[.string ⟨#[111, 114]⟩, .int .i64 6, .int .i64 1, .string ⟨#[97, 110, 100]⟩, .int .i64 5, .int .i64 2, .string ⟨#[110, 111, 116]⟩, .int .i64 4, .int .i64 2][3]? := by rw [cell_of_row _ _ _ _ _ _ HB.out]
  have q4 : w2.cell? ⟨w1.heap.size, 4, none⟩ = #[.string ⟨#[111, 114]⟩, .int .i64 6, .int .i64 1, .string ⟨#[97, 110, 100]⟩, .int .i64 5, .int .i64 2, .string ⟨#[110, 111, 116]⟩, .int .i64 4, .int .i64 2][4]? := by rw [cell_of_row _ _ _ _ _ _ HB.out]
  have q5 : w2.cell? ⟨w1.heap.size, 5, none⟩ = #[.string ⟨#[111, 114]⟩, .int .i64 6, .int .i64 1, .string ⟨#[97, 110, 100]⟩, .int .i64 5, .int .i64 2, .string ⟨#[110, 111, 116]⟩, .int .i64 4, .int .i64 2][5]? := by rw [cell_of_row _ _ _ _ _ _ HB.out]
  have q6 : w2.cell? ⟨w1.heap.size, 6, none⟩ = #[.string ⟨#[111, 114]⟩, .int .i64 6, .int .i64 1, .string ⟨#[97, 110, 100]⟩, .int .i64 5, .int .i64 2, .string ⟨#[110, 111, 116]⟩, .int .i64 4, .int .i64 2][6]? := by rw [cell_of_row _ _ _ _ _ _ HB.out]
  have q7 : w2.cell? ⟨w1.heap.size, 7, none⟩ = #[.string ⟨#[111, 114]⟩, .int .i64 6, .int .i64 1, .string ⟨#[97, 110, 100]⟩, .int .i64 5, .int .i64 2, .string ⟨#[110, 111, 116]⟩, .int .i64 4, .int .i64 2][7]? := by rw [cell_of_row _ _ _ _ _ _ HB.out]
  have q8 : w2.cell? ⟨w1.heap.size, 8, none⟩ = #[.string ⟨#[111, 114]⟩, .int .i64 6, .int .i64 1, .string ⟨#[97, 110, 100]⟩, .int .i64 5, .int .i64 2, .string ⟨#[110, 111, 116]⟩, .int .i64 4, .int .i64 2][8]? := by rw [cell_of_row _ _ _ _ _ _ HB.out]
  simp at q0 q1 q2 q3 q4 q5 q6 q7 q8
  go_wp2
  clear q0 q1 q2 q3 q4 q5 q6 q7 q8 HB
  go_loopg [8] 4 (fun gg x wr => ∃ k : Nat, x = .int .i64 (k : Nat) ∧ k ≤ 2 ∧ Hid (Below w.heap.size w wr) ∧ 3 - k < gg)
  case atStart => exact ⟨0, rfl, by omega, X2, by omega⟩
  case round =>
    obtain ⟨k, rfl, hk, XR, hg⟩ := hrel
    have HG := hide hg
    clear hg
    rcases (by omega : k = 0 ∨ k = 1 ∨ k = 2) with rfl | rfl | rfl
    · clear hk
      have ix := ixo0
      go_wp2
      go_roundg 3
      case measure => have := HG.out; omega
      case rel => exact ⟨1, by first | rfl | go_num, by omega, (by first | exact al XR.out _ | exact hide (al XR.out _)), by omega⟩
    · clear hk
      have ix := ixo1
      go_wp2
      go_roundg 2
      case measure => have := HG.out; omega
      case rel => exact ⟨2, by first | rfl | go_num, by omega, (by first | exact al XR.out _ | exact hide (al XR.out _)), by omega⟩
    · clear hk
      have ix := ixo2
      go_wp2
      go_ret
      exact ⟨rfl, al XR.out _⟩
end Go.Proofs.YtlmhofjiobmodaaGreatDoor
/-
  Holds of any kind; hasMore of a condition that has no more than its kind has. No condition.
-/
namespace Go.Proofs.YtlmhofjiobmodaaGreatDoor
open Go.RowKit Go.Lib

def hldZ (k : Int) : Nat := if k = 6 then 0 else if k = 5 then 1 else if k = 4 then 2 else 3
set_option maxRecDepth 100000 in
set_option maxHeartbeats 2000000 in
theorem holds_any (ck : Int) (w : World) : Calls Tryz.prog 138 #[.int .i64 ck] w fun e w' => e = .returned (.int .i64 (hldZ ck : Nat)) ∧ Below w.heap.size w w' := by
  have HO := hide (operators_any w)
  go_enter Tryz.func138, Tryz.ntmps138
  go_upto_region 2 with (go_at_call 116; refine HO.out.mono ?_; rintro e w1 ⟨rfl, x1⟩; have X1 := hide x1; clear x1)
  have HB := hide (heap_alloc_new w1 (.cells #[.string ⟨#[111, 114]⟩, .int .i64 6, .int .i64 1, .string ⟨#[97, 110, 100]⟩, .int .i64 5, .int .i64 2, .string ⟨#[110, 111, 116]⟩, .int .i64 4, .int .i64 2] 152))
  have X2 := hide (bt X1.out (show Below w1.heap.size w1 (w1.alloc (.cells #[.string ⟨#[111, 114]⟩, .int .i64 6, .int .i64 1, .string ⟨#[97, 110, 100]⟩, .int .i64 5, .int .i64 2, .string ⟨#[110, 111, 116]⟩, .int .i64 4, .int .i64 2] 152)) from al (Below.refl _ _) _) (Nat.le_refl _))
  generalize w1.alloc (.cells #[.string ⟨#[111, 114]⟩, .int .i64 6, .int .i64 1, .string ⟨#[97, 110, 100]⟩, .int .i64 5, .int .i64 2, .string ⟨#[110, 111, 116]⟩, .int .i64 4, .int .i64 2] 152) = w2 at *
  have q : ∀ j, w2.cell? ⟨w1.heap.size, j, none⟩ = #[.string ⟨#[111, 114]⟩, .int .i64 6, .int .i64 1, .string ⟨#[97, 110, 100]⟩, .int .i64 5, .int .i64 2, .string ⟨#[110, 111, 116]⟩, .int .i64 4, .int .i64 2][j]? := fun j => by rw [cell_of_row _ _ _ _ _ _ HB.out]
  have q0 := q 0
  have q1 := q 1
  have q2 := q 2
  have q3 := q 3
  have q4 := q 4
  have q5 := q 5
  have q6 := q 6
  have q7 := q 7
  have q8 := q 8
  clear q
  simp at q0 q1 q2 q3 q4 q5 q6 q7 q8
  go_wp2
  clear q0 q1 q2 q3 q4 q5 q6 q7 q8 HB
  go_loopg [8] 5 (fun gg x wr => ∃ k : Nat, x = .int .i64 (k : Nat) ∧ k ≤ 3 ∧ Hid ((1 ≤ k → ck ≠ 6) ∧ (2 ≤ k → ck ≠ 5) ∧ (3 ≤ k → ck ≠ 4)) ∧ Hid (Below w.heap.size w wr) ∧ 4 - k < gg)
  case atStart => exact ⟨0, rfl, by omega, hide ⟨fun h => by omega, fun h => by omega, fun h => by omega⟩, X2, by omega⟩
  case round =>
    obtain ⟨k, rfl, hk, HN, XR, hg⟩ := hrel
    have HG := hide hg
    clear hg
    rcases (by omega : k = 0 ∨ k = 1 ∨ k = 2 ∨ k = 3) with rfl | rfl | rfl | rfl
    · clear hk
      have ix := ixo0
      by_cases he : ck = 6
      · subst he
        go_wp2
        go_ret
        exact ⟨rfl, al XR.out _⟩
      · have hb : ((6 : Int) == ck) = false := by simpa using fun h => he h.symm
        have HE := hide he
        clear he
        go_wp2
        go_roundg 4
        case measure => have := HG.out; omega
        case rel => exact ⟨1, by first | rfl | go_num, by omega, hide ⟨fun _ => HE.out, fun h => by omega, fun h => by omega⟩, (by first | exact al XR.out _ | exact hide (al XR.out _)), by omega⟩
    · clear hk
      have ix := ixo1
      by_cases he : ck = 5
      · subst he
        go_wp2
        go_ret
        exact ⟨rfl, al XR.out _⟩
      · have hb : ((5 : Int) == ck) = false := by simpa using fun h => he h.symm
        have HE := hide he
        clear he
        go_wp2
        go_roundg 3
        case measure => have := HG.out; omega
        case rel => exact ⟨2, by first | rfl | go_num, by omega, hide ⟨fun _ => HN.out.1 (by omega), fun h => HE.out, fun h => by omega⟩, (by first | exact al XR.out _ | exact hide (al XR.out _)), by omega⟩
    · clear hk
      have ix := ixo2
      by_cases he : ck = 4
      · subst he
        go_wp2
        go_ret
        exact ⟨rfl, al XR.out _⟩
      · have hb : ((4 : Int) == ck) = false := by simpa using fun h => he h.symm
        have HE := hide he
        clear he
        go_wp2
        go_roundg 2
        case measure => have := HG.out; omega
        case rel => exact ⟨3, by first | rfl | go_num, by omega, hide ⟨fun _ => HN.out.1 (by omega), fun _ => HN.out.2.1 (by omega), fun _ => HE.out⟩, (by first | exact al XR.out _ | exact hide (al XR.out _)), by omega⟩
    · clear hk
      have HR : Hid (hldZ ck = 3) := by
        unfold Hid hldZ
        rw [if_neg (HN.out.1 (by omega)), if_neg (HN.out.2.1 (by omega)), if_neg (HN.out.2.2 (by omega))]
      go_wp2
      go_ret
      exact ⟨by rw [HR.out]; rfl, XR.out⟩
/-- No more than its kind has. -/
def NoM (c : CT) : Prop := (c.k = 1 ∨ c.k = 2) ∧ c.nm = [] ∧ c.tx = [] ∧ c.pre = [] ∧ c.sp = [] ∧ c.ns = [] ∧ c.kids = []
  ∨ c.k = 3 ∧ c.tx = [] ∧ c.pre = [] ∧ c.sp = [] ∧ c.ns = [] ∧ c.kids = []
  ∨ (c.k = 4 ∨ c.k = 5 ∨ c.k = 6) ∧ c.nm = [] ∧ c.tx = [] ∧ c.pre = [] ∧ c.sp = [] ∧ c.ns = []
  ∨ c.k = 8 ∧ c.nm = [] ∧ c.tx = [] ∧ c.pre = [] ∧ c.ns = [] ∧ c.kids = []
set_option maxRecDepth 100000 in
set_option maxHeartbeats 4000000 in
theorem more_no {w : World} {base : Nat} {c : CT} {vs : List Value} {bs : List Nat} (hc : CtAt w base c vs bs) (hn : NoM c) : Calls Tryz.prog 137 #[.agg vs.toArray] w fun e w' => e = .returned (.bool false) ∧ Below w.heap.size w w' := by
  obtain ⟨a3, c3, a4, c4, a5, c5, a6, c6, rfl⟩ := hc.eight
  clear hc
  cases c with
  | mk k nm tx pre sp ns kids p =>
  unfold NoM at hn
  simp only [CT.k, CT.nm, CT.tx, CT.pre, CT.sp, CT.ns, CT.kids, CT.p] at hn ⊢
  have hb : ∀ (o : Obj), Below w.heap.size w (w.alloc o) := fun o => al (Below.refl _ _) o
  rcases hn with ⟨rfl | rfl, rfl, rfl, rfl, rfl, rfl, rfl⟩ | ⟨rfl, rfl, rfl, rfl, rfl, rfl⟩ | ⟨rfl | rfl | rfl, rfl, rfl, rfl, rfl, rfl⟩ | ⟨rfl, rfl, rfl, rfl, rfl, rfl⟩
  · have HB := hide (heap_alloc_new w (.cells #[.int .i64 1, .string ⟨#[]⟩, .string ⟨#[]⟩, .slice a3 0 c3, .slice a4 0 c4, .slice a5 0 c5, .slice a6 0 c6, .int .i64 p] 60))
    have XW := hide (hb (.cells #[.int .i64 1, .string ⟨#[]⟩, .string ⟨#[]⟩, .slice a3 0 c3, .slice a4 0 c4, .slice a5 0 c5, .slice a6 0 c6, .int .i64 p] 60))
    obtain ⟨P, hP⟩ : ∃ P, P = w.heap.size := ⟨_, rfl⟩
    go_enter Tryz.func137, Tryz.ntmps137
    go_upto_region 1 with fail
    rw [← hP] at HB ⊢
    have HPW : Hid (w.heap.size ≤ P) := by unfold Hid; omega
    clear hP hb
    try simp only [List.length_nil] at HB XW
    generalize w.alloc (.cells #[.int .i64 1, .string ⟨#[]⟩, .string ⟨#[]⟩, .slice a3 0 c3, .slice a4 0 c4, .slice a5 0 c5, .slice a6 0 c6, .int .i64 p] 60) = W at *
    obtain ⟨q0, q1, q2, q3, q4, q5, q6, q7⟩ := ld8 HB.out
    go_wp2
    go_ret
    exact ⟨rfl, XW.out⟩
  · have HB := hide (heap_alloc_new w (.cells #[.int .i64 2, .string ⟨#[]⟩, .string ⟨#[]⟩, .slice a3 0 c3, .slice a4 0 c4, .slice a5 0 c5, .slice a6 0 c6, .int .i64 p] 60))
    have XW := hide (hb (.cells #[.int .i64 2, .string ⟨#[]⟩, .string ⟨#[]⟩, .slice a3 0 c3, .slice a4 0 c4, .slice a5 0 c5, .slice a6 0 c6, .int .i64 p] 60))
    obtain ⟨P, hP⟩ : ∃ P, P = w.heap.size := ⟨_, rfl⟩
    go_enter Tryz.func137, Tryz.ntmps137
    go_upto_region 1 with fail
    rw [← hP] at HB ⊢
    have HPW : Hid (w.heap.size ≤ P) := by unfold Hid; omega
    clear hP hb
    try simp only [List.length_nil] at HB XW
    generalize w.alloc (.cells #[.int .i64 2, .string ⟨#[]⟩, .string ⟨#[]⟩, .slice a3 0 c3, .slice a4 0 c4, .slice a5 0 c5, .slice a6 0 c6, .int .i64 p] 60) = W at *
    obtain ⟨q0, q1, q2, q3, q4, q5, q6, q7⟩ := ld8 HB.out
    go_wp2
    go_ret
    exact ⟨rfl, XW.out⟩
  · have HB := hide (heap_alloc_new w (.cells #[.int .i64 3, .string ⟨nm.toArray⟩, .string ⟨#[]⟩, .slice a3 0 c3, .slice a4 0 c4, .slice a5 0 c5, .slice a6 0 c6, .int .i64 p] 60))
    have XW := hide (hb (.cells #[.int .i64 3, .string ⟨nm.toArray⟩, .string ⟨#[]⟩, .slice a3 0 c3, .slice a4 0 c4, .slice a5 0 c5, .slice a6 0 c6, .int .i64 p] 60))
    obtain ⟨P, hP⟩ : ∃ P, P = w.heap.size := ⟨_, rfl⟩
    go_enter Tryz.func137, Tryz.ntmps137
    go_upto_region 1 with fail
    rw [← hP] at HB ⊢
    have HPW : Hid (w.heap.size ≤ P) := by unfold Hid; omega
    clear hP hb
    try simp only [List.length_nil] at HB XW
    generalize w.alloc (.cells #[.int .i64 3, .string ⟨nm.toArray⟩, .string ⟨#[]⟩, .slice a3 0 c3, .slice a4 0 c4, .slice a5 0 c5, .slice a6 0 c6, .int .i64 p] 60) = W at *
    obtain ⟨q0, q1, q2, q3, q4, q5, q6, q7⟩ := ld8 HB.out
    have f1 := frozen_of_row W P 1 _ _ HB.out
    go_upto_region 19 with fail
    have HB2 : Hid ((W.setCell ⟨P, 1, none⟩ (.string ⟨#[]⟩)).heap[P]? = some (.cells #[.int .i64 3, .string ⟨#[]⟩, .string ⟨#[]⟩, .slice a3 0 c3, .slice a4 0 c4, .slice a5 0 c5, .slice a6 0 c6, .int .i64 p] 60 (0, 0))) := by
      have := block_setCell' HB.out 1 (.string ⟨#[]⟩)
      simpa [Hid] using this
    have X2 := hide (XW.out.setCell (p := ⟨P, 1, none⟩) HPW.out (.string ⟨#[]⟩))
    clear q0 q1 q2 q3 q4 q5 q6 q7 f1 HB XW
    generalize W.setCell ⟨P, 1, none⟩ (.string ⟨#[]⟩) = W2 at *
    obtain ⟨q0, q1, q2, q3, q4, q5, q6, q7⟩ := ld8 HB2.out
    go_wp2
    go_ret
    exact ⟨rfl, X2.out⟩
  · have HB := hide (heap_alloc_new w (.cells #[.int .i64 4, .string ⟨#[]⟩, .string ⟨#[]⟩, .slice a3 0 c3, .slice a4 0 c4, .slice a5 0 c5, .slice a6 kids.length c6, .int .i64 p] 60))
    have XW := hide (hb (.cells #[.int .i64 4, .string ⟨#[]⟩, .string ⟨#[]⟩, .slice a3 0 c3, .slice a4 0 c4, .slice a5 0 c5, .slice a6 kids.length c6, .int .i64 p] 60))
    obtain ⟨P, hP⟩ : ∃ P, P = w.heap.size := ⟨_, rfl⟩
    go_enter Tryz.func137, Tryz.ntmps137
    go_upto_region 1 with fail
    rw [← hP] at HB ⊢
    have HPW : Hid (w.heap.size ≤ P) := by unfold Hid; omega
    clear hP hb
    try simp only [List.length_nil] at HB XW
    generalize w.alloc (.cells #[.int .i64 4, .string ⟨#[]⟩, .string ⟨#[]⟩, .slice a3 0 c3, .slice a4 0 c4, .slice a5 0 c5, .slice a6 kids.length c6, .int .i64 p] 60) = W at *
    obtain ⟨q0, q1, q2, q3, q4, q5, q6, q7⟩ := ld8 HB.out
    have f1 := frozen_of_row W P 6 _ _ HB.out
    go_upto_region 19 with fail
    have HB2 : Hid ((W.setCell ⟨P, 6, none⟩ (.slice none 0 0)).heap[P]? = some (.cells #[.int .i64 4, .string ⟨#[]⟩, .string ⟨#[]⟩, .slice a3 0 c3, .slice a4 0 c4, .slice a5 0 c5, .slice none 0 0, .int .i64 p] 60 (0, 0))) := by
      have := block_setCell' HB.out 6 (.slice none 0 0)
      simpa [Hid] using this
    have X2 := hide (XW.out.setCell (p := ⟨P, 6, none⟩) HPW.out (.slice none 0 0))
    clear q0 q1 q2 q3 q4 q5 q6 q7 f1 HB XW
    generalize W.setCell ⟨P, 6, none⟩ (.slice none 0 0) = W2 at *
    obtain ⟨q0, q1, q2, q3, q4, q5, q6, q7⟩ := ld8 HB2.out
    go_wp2
    go_ret
    exact ⟨rfl, X2.out⟩
  · have HB := hide (heap_alloc_new w (.cells #[.int .i64 5, .string ⟨#[]⟩, .string ⟨#[]⟩, .slice a3 0 c3, .slice a4 0 c4, .slice a5 0 c5, .slice a6 kids.length c6, .int .i64 p] 60))
    have XW := hide (hb (.cells #[.int .i64 5, .string ⟨#[]⟩, .string ⟨#[]⟩, .slice a3 0 c3, .slice a4 0 c4, .slice a5 0 c5, .slice a6 kids.length c6, .int .i64 p] 60))
    obtain ⟨P, hP⟩ : ∃ P, P = w.heap.size := ⟨_, rfl⟩
    go_enter Tryz.func137, Tryz.ntmps137
    go_upto_region 1 with fail
    rw [← hP] at HB ⊢
    have HPW : Hid (w.heap.size ≤ P) := by unfold Hid; omega
    clear hP hb
    try simp only [List.length_nil] at HB XW
    generalize w.alloc (.cells #[.int .i64 5, .string ⟨#[]⟩, .string ⟨#[]⟩, .slice a3 0 c3, .slice a4 0 c4, .slice a5 0 c5, .slice a6 kids.length c6, .int .i64 p] 60) = W at *
    obtain ⟨q0, q1, q2, q3, q4, q5, q6, q7⟩ := ld8 HB.out
    have f1 := frozen_of_row W P 6 _ _ HB.out
    go_upto_region 19 with fail
    have HB2 : Hid ((W.setCell ⟨P, 6, none⟩ (.slice none 0 0)).heap[P]? = some (.cells #[.int .i64 5, .string ⟨#[]⟩, .string ⟨#[]⟩, .slice a3 0 c3, .slice a4 0 c4, .slice a5 0 c5, .slice none 0 0, .int .i64 p] 60 (0, 0))) := by
      have := block_setCell' HB.out 6 (.slice none 0 0)
      simpa [Hid] using this
    have X2 := hide (XW.out.setCell (p := ⟨P, 6, none⟩) HPW.out (.slice none 0 0))
    clear q0 q1 q2 q3 q4 q5 q6 q7 f1 HB XW
    generalize W.setCell ⟨P, 6, none⟩ (.slice none 0 0) = W2 at *
    obtain ⟨q0, q1, q2, q3, q4, q5, q6, q7⟩ := ld8 HB2.out
    go_wp2
    go_ret
    exact ⟨rfl, X2.out⟩
  · have HB := hide (heap_alloc_new w (.cells #[.int .i64 6, .string ⟨#[]⟩, .string ⟨#[]⟩, .slice a3 0 c3, .slice a4 0 c4, .slice a5 0 c5, .slice a6 kids.length c6, .int .i64 p] 60))
    have XW := hide (hb (.cells #[.int .i64 6, .string ⟨#[]⟩, .string ⟨#[]⟩, .slice a3 0 c3, .slice a4 0 c4, .slice a5 0 c5, .slice a6 kids.length c6, .int .i64 p] 60))
    obtain ⟨P, hP⟩ : ∃ P, P = w.heap.size := ⟨_, rfl⟩
    go_enter Tryz.func137, Tryz.ntmps137
    go_upto_region 1 with fail
    rw [← hP] at HB ⊢
    have HPW : Hid (w.heap.size ≤ P) := by unfold Hid; omega
    clear hP hb
    try simp only [List.length_nil] at HB XW
    generalize w.alloc (.cells #[.int .i64 6, .string ⟨#[]⟩, .string ⟨#[]⟩, .slice a3 0 c3, .slice a4 0 c4, .slice a5 0 c5, .slice a6 kids.length c6, .int .i64 p] 60) = W at *
    obtain ⟨q0, q1, q2, q3, q4, q5, q6, q7⟩ := ld8 HB.out
    have f1 := frozen_of_row W P 6 _ _ HB.out
    go_upto_region 19 with fail
    have HB2 : Hid ((W.setCell ⟨P, 6, none⟩ (.slice none 0 0)).heap[P]? = some (.cells #[.int .i64 6, .string ⟨#[]⟩, .string ⟨#[]⟩, .slice a3 0 c3, .slice a4 0 c4, .slice a5 0 c5, .slice none 0 0, .int .i64 p] 60 (0, 0))) := by
      have := block_setCell' HB.out 6 (.slice none 0 0)
      simpa [Hid] using this
    have X2 := hide (XW.out.setCell (p := ⟨P, 6, none⟩) HPW.out (.slice none 0 0))
    clear q0 q1 q2 q3 q4 q5 q6 q7 f1 HB XW
    generalize W.setCell ⟨P, 6, none⟩ (.slice none 0 0) = W2 at *
    obtain ⟨q0, q1, q2, q3, q4, q5, q6, q7⟩ := ld8 HB2.out
    go_wp2
    go_ret
    exact ⟨rfl, X2.out⟩
  · have HB := hide (heap_alloc_new w (.cells #[.int .i64 8, .string ⟨#[]⟩, .string ⟨#[]⟩, .slice a3 0 c3, .slice a4 sp.length c4, .slice a5 0 c5, .slice a6 0 c6, .int .i64 p] 60))
    have XW := hide (hb (.cells #[.int .i64 8, .string ⟨#[]⟩, .string ⟨#[]⟩, .slice a3 0 c3, .slice a4 sp.length c4, .slice a5 0 c5, .slice a6 0 c6, .int .i64 p] 60))
    obtain ⟨P, hP⟩ : ∃ P, P = w.heap.size := ⟨_, rfl⟩
    go_enter Tryz.func137, Tryz.ntmps137
    go_upto_region 1 with fail
    rw [← hP] at HB ⊢
    have HPW : Hid (w.heap.size ≤ P) := by unfold Hid; omega
    clear hP hb
    try simp only [List.length_nil] at HB XW
    generalize w.alloc (.cells #[.int .i64 8, .string ⟨#[]⟩, .string ⟨#[]⟩, .slice a3 0 c3, .slice a4 sp.length c4, .slice a5 0 c5, .slice a6 0 c6, .int .i64 p] 60) = W at *
    obtain ⟨q0, q1, q2, q3, q4, q5, q6, q7⟩ := ld8 HB.out
    have f1 := frozen_of_row W P 4 _ _ HB.out
    go_upto_region 19 with fail
    have HB2 : Hid ((W.setCell ⟨P, 4, none⟩ (.slice none 0 0)).heap[P]? = some (.cells #[.int .i64 8, .string ⟨#[]⟩, .string ⟨#[]⟩, .slice a3 0 c3, .slice none 0 0, .slice a5 0 c5, .slice a6 0 c6, .int .i64 p] 60 (0, 0))) := by
      have := block_setCell' HB.out 4 (.slice none 0 0)
      simpa [Hid] using this
    have X2 := hide (XW.out.setCell (p := ⟨P, 4, none⟩) HPW.out (.slice none 0 0))
    clear q0 q1 q2 q3 q4 q5 q6 q7 f1 HB XW
    generalize W.setCell ⟨P, 4, none⟩ (.slice none 0 0) = W2 at *
    obtain ⟨q0, q1, q2, q3, q4, q5, q6, q7⟩ := ld8 HB2.out
    go_wp2
    go_ret
    exact ⟨rfl, X2.out⟩
end Go.Proofs.YtlmhofjiobmodaaGreatDoor
/-
  What a condition is written as; the writer's not, where it goes well. Condition: its part is written so.
-/
namespace Go.Proofs.YtlmhofjiobmodaaGreatDoor
open Go.RowKit Go.Lib

def kidsI (part : CT → WS → Option WS) (word : By) : List CT → Nat → WS → Option WS
  | [], _, s => some s
  | d :: l, i, s => (if i = 0 then some s else wrdW word s).bind fun a => (part d a).bind fun b => kidsI part word l (i + 1) b
def rowW (part : CT → WS → Option WS) (word : By) (ks : List CT) (s : WS) : Option WS := if 2 ≤ ks.length ∧ ks.length ≤ 32 then kidsI part word ks 0 s else none
def notW (part : CT → WS → Option WS) (ks : List CT) (s : WS) : Option WS := match ks with
  | [d] => (wrdW wNot s).bind fun a => part d a
  | _ => none
/-- A condition, by fuel: how deep it may be. -/
def condW : Nat → CT → Nat → WS → Option WS
  | 0, _, _, _ => none
  | f + 1, c, place, s => (if hldZ c.k < place then othW [40] s else some s).bind fun a =>
    (if c.k = 4 then notW (fun d => condW f d 2) c.kids a
     else if c.k = 5 then rowW (fun d => condW f d 2) wAnd c.kids a
     else if c.k = 6 then rowW (fun d => condW f d 1) wOr c.kids a
     else if c.k = 3 then namW c.nm a
     else tstW c a).bind fun b => if hldZ c.k < place then othW [41] b else some b
def Smp : Nat → CT → Prop
  | 0, _ => True
  | f + 1, c => NoM c ∧ (∀ z ∈ c.sp, Dg3 z.1 ∧ Dg3 z.2) ∧ ∀ d ∈ c.kids, Smp f d
def CondC (f : Nat) : Prop := ∀ (c : CT) (place deep : Nat) (s x : WS) (w : World) (base wp b0 : Nat) (vs : List Value) (bs : List Nat), place ≤ 3 → deep + f = 17 → Smp f c → WrA w base wp s.1 s.2 → CtAt w b0 c vs bs → condW f c place s = some x → Calls Tryz.prog 106 #[.pointer (some ⟨wp, 0, none⟩), .agg vs.toArray, .int .i64 (place : Nat), .int .i64 (deep : Nat)] w (PostW base wp w x)
set_option maxRecDepth 100000 in
set_option maxHeartbeats 4000000 in
theorem not_ok {f : Nat} (hC : CondC f) {w : World} {base wp b0 deep : Nat} {c : CT} {vs : List Value} {bs : List Nat} {s x : WS} (hd : deep + f = 16) (hs : ∀ d ∈ c.kids, Smp f d) (h : WrA w base wp s.1 s.2) (hc : CtAt w b0 c vs bs) (hx : notW (fun d => condW f d 2) c.kids s = some x) :
    Calls Tryz.prog 139 #[.pointer (some ⟨wp, 0, none⟩), .agg vs.toArray, .agg #[.string ⟨#[110, 111, 116]⟩, .int .i64 4, .int .i64 2], .int .i64 (deep : Nat)] w (PostW base wp w x) := by
  obtain ⟨d, hks, a, ha, hx⟩ : ∃ d, c.kids = [d] ∧ ∃ a, wrdW wNot s = some a ∧ condW f d 2 a = some x := by
    unfold notW at hx
    split at hx
    · rename_i d e
      obtain ⟨a, ha, hx⟩ := Option.bind_eq_some_iff.1 hx
      exact ⟨d, e, a, ha, hx⟩
    · cases hx
  have hsd := hs d (by rw [hks]; exact List.mem_singleton.2 rfl)
  have hc0 := hc
  obtain ⟨a3, c3, a4, c4, a5, c5, a6, c6, rfl⟩ := hc.eight
  obtain ⟨cs, ks, hrow, hkd, _⟩ := hc.kidsRow
  rw [hks] at hkd hrow ⊢
  obtain ⟨us, bs2, hcu, hcell, _⟩ := hkd.get 0 (by simp)
  obtain ⟨d3, e3, d4, e4, d5, e5, d6, e6, rfl⟩ := hcu.eight
  obtain ⟨ao, cp, hv, hav⟩ := own_shape hrow
  obtain ⟨g, hg⟩ := hav (by simp)
  injection hv with hv1 hv2 hv3
  subst hv1
  subst hg
  clear hv2 hv3 hav
  have HCU : Hid (CtAt w b0 d [.int .i64 d.k, .string ⟨d.nm.toArray⟩, .string ⟨d.tx.toArray⟩, .slice d3 d.pre.length e3, .slice d4 d.sp.length e4, .slice d5 d.ns.length e5, .slice d6 d.kids.length e6, .int .i64 d.p] bs2) := hcu
  have HRW := hide hrow
  have HCL := hide hcell
  simp only [List.length_singleton]
  obtain ⟨W, hW⟩ : ∃ W, W = (w.alloc (.cells #[.int .i64 c.k, .string ⟨c.nm.toArray⟩, .string ⟨c.tx.toArray⟩, .slice a3 c.pre.length c3, .slice a4 c.sp.length c4, .slice a5 c.ns.length c5, .slice (some ⟨g, 0, none⟩) 1 c6, .int .i64 c.p] 60)).alloc (.cells #[.string ⟨#[110, 111, 116]⟩, .int .i64 4, .int .i64 2] 151) := ⟨_, rfl⟩
  obtain ⟨b1, hb1⟩ : ∃ b, b = w.heap.size := ⟨_, rfl⟩
  obtain ⟨b2, hb2⟩ : ∃ b, b = w.heap.size + 1 := ⟨_, rfl⟩
  have XW := hide (show Below w.heap.size w W by rw [hW]; exact al (al (Below.refl _ _) _) _)
  have B1 := hide (show W.heap[b1]? = some (.cells #[.int .i64 c.k, .string ⟨c.nm.toArray⟩, .string ⟨c.tx.toArray⟩, .slice a3 c.pre.length c3, .slice a4 c.sp.length c4, .slice a5 c.ns.length c5, .slice (some ⟨g, 0, none⟩) 1 c6, .int .i64 c.p] 60 (0, 0)) by
    rw [hW, hb1]
    exact (heap_alloc_old _ _ (by simp)).trans (heap_alloc_new w _))
  have B2 := hide (show W.heap[b2]? = some (.cells #[.string ⟨#[110, 111, 116]⟩, .int .i64 4, .int .i64 2] 151 (0, 0)) by
    rw [hW, hb2, show w.heap.size + 1 = (w.alloc (.cells #[.int .i64 c.k, .string ⟨c.nm.toArray⟩, .string ⟨c.tx.toArray⟩, .slice a3 c.pre.length c3, .slice a4 c.sp.length c4, .slice a5 c.ns.length c5, .slice (some ⟨g, 0, none⟩) 1 c6, .int .i64 c.p] 60)).heap.size by simp]
    exact heap_alloc_new _ _)
  have RW := hide (h.below XW.out)
  have HM := hide must_ok
  have HW := hide (word_ok RW.out ha)
  unfold wNot at HW
  have HCC := hide (fun V (r : WrA V base wp a.1 a.2) (k : CtAt V b0 d [.int .i64 d.k, .string ⟨d.nm.toArray⟩, .string ⟨d.tx.toArray⟩, .slice d3 d.pre.length e3, .slice d4 d.sp.length e4, .slice d5 d.ns.length e5, .slice d6 d.kids.length e6, .int .i64 d.p] bs2) => hC d 2 (deep + 1) a x V base wp b0 _ bs2 (by omega) (by omega) hsd r k hx)
  have p6 : W.cell? ⟨b1, 6, none⟩ = some (.slice (some ⟨g, 0, none⟩) 1 c6) := by rw [cell_of_row _ _ _ _ _ _ B1.out]; rfl
  have p0 : W.cell? ⟨b2, 0, none⟩ = some (.string ⟨#[110, 111, 116]⟩) := by rw [cell_of_row _ _ _ _ _ _ B2.out]; rfl
  have HDD := hide hd
  clear hx ha hc hs h hks hsd hcu hrow hcell hkd hd hc0 hC
  go_enter Tryz.func139, Tryz.ntmps139
  go_upto_region 1 with fail
  rw [← hb2, ← hW, ← hb1]
  clear hW hb1 hb2
  go_upto_region 3 with (first | (go_at_call 65; refine (HM.out _).mono ?_; rintro e w2 ⟨rfl, hw⟩; have hw2 := hw.symm; clear hw; subst hw2) | (go_at_call 103; refine HW.out.mono ?_; rintro e w3 ⟨rfl, r3, x3⟩; have R3 := hide r3; have X3 := hide x3; clear r3 x3))
  clear p6 p0 HW
  have HC1 := hide (CtAt.below HCU.out XW.out)
  have HC3 := hide (HC1.out.kpo RW.out X3.out)
  have HR3 := hide (X3.out.ownS (own_below HRW.out XW.out) (by decide) RW.out)
  have A1 := hide (X3.out.box B1.out (by decide) (RW.out.ne B1.out (by decide)))
  have A2 := hide (X3.out.box B2.out (by decide) (RW.out.ne B2.out (by decide)))
  have X4 := hide ((KpO.of_below (base := base) (wp := wp) XW.out).trans X3.out)
  clear HC1 HRW B1 B2 X3 RW XW HCU
  have XD : Hid (Below w3.heap.size w3 w3.drew) := (Below.refl _ _).drew
  have HQ : Hid (∀ V, Below w3.heap.size w3 V → V.cell? ⟨b1, 6, none⟩ = some (.slice (some ⟨g, 0, none⟩) 1 c6) ∧ V.cell? ⟨b2, 2, none⟩ = some (.int .i64 2) ∧ V.cell? ⟨g, 0, none⟩ = some (.int .i64 d.k) ∧ V.cell? ⟨g, 1, none⟩ = some (.string ⟨d.nm.toArray⟩) ∧ V.cell? ⟨g, 2, none⟩ = some (.string ⟨d.tx.toArray⟩) ∧ V.cell? ⟨g, 3, none⟩ = some (.slice d3 d.pre.length e3) ∧ V.cell? ⟨g, 4, none⟩ = some (.slice d4 d.sp.length e4) ∧ V.cell? ⟨g, 5, none⟩ = some (.slice d5 d.ns.length e5) ∧ V.cell? ⟨g, 6, none⟩ = some (.slice d6 d.kids.length e6) ∧ V.cell? ⟨g, 7, none⟩ = some (.int .i64 d.p)) := fun V y => by
    have hr := own_below HR3.out y
    have hcl : ∀ r, r < 8 → V.cell? ⟨g, r, none⟩ = [.int .i64 d.k, .string ⟨d.nm.toArray⟩, .string ⟨d.tx.toArray⟩, .slice d3 d.pre.length e3, .slice d4 d.sp.length e4, .slice d5 d.ns.length e5, .slice d6 d.kids.length e6, .int .i64 d.p][r]? := fun r hr' => by
      have := HCL.out r hr'
      rw [Nat.zero_mul, Nat.zero_add] at this
      rw [World.ownsRow.cellAt hr r (by simp; omega), this]
      rfl
    refine ⟨?_, ?_, hcl 0 (by omega), hcl 1 (by omega), hcl 2 (by omega), hcl 3 (by omega), hcl 4 (by omega), hcl 5 (by omega), hcl 6 (by omega), hcl 7 (by omega)⟩
    · rw [cell_of_row _ _ _ _ _ _ ((y.block b1 (lt_of_block A1.out)).trans A1.out)]; rfl
    · rw [cell_of_row _ _ _ _ _ _ ((y.block b2 (lt_of_block A2.out)).trans A2.out)]; rfl
  have HS0 := XD
  have HCB := hide (fun V (y : Below w3.heap.size w3 V) => HCC.out V (R3.out.below y) (HC3.out.below y))
  clear HR3 HCL A1 A2 HC3 HCC
  have hde : ((deep + 1 : Nat) : Int) = (deep : Int) + 1 := by omega
  simp only [hde] at HCB
  clear hde
  generalize d.k = dk at *
  generalize d.nm = dnm at *
  generalize d.tx = dtx at *
  generalize d.p = dp at *
  generalize d.pre.length = npre at *
  generalize d.sp.length = nsp at *
  generalize d.ns.length = nns at *
  generalize d.kids.length = nkids at *
  have fw : IntKind.i64.wrap ((deep : Int) + 1) = ((deep + 1 : Nat) : Int) := by have := HDD.out; simp [IntKind.wrap, IntKind.bits, IntKind.signed]; omega
  refine wp_unt (S := fun V => Below w3.heap.size w3 V) 9 (by kernel_rfl) ?_
  refine UntH.take (i := 0) (some 17) rfl rfl (by kernel_rfl) (by kernel_rfl) (by kernel_rfl) (by kernel_rfl) (fun _ _ _ _ h => h) (by rfl) HS0.out ?_
  apply Exists.intro
  refine ⟨fun w' hw' => ?_, ?_⟩
  · obtain ⟨q1, q2, q3, q4, q5, q6, q7, q8, q9, q10⟩ := HQ.out w' hw'
    go_simp
    first | done | rfl
  try simp only [Act.put, List.setIfInBounds_toArray, List.set_cons_zero, List.set_cons_succ]
  refine UntH.take (i := 1) (some 18) rfl rfl (by kernel_rfl) (by kernel_rfl) (by kernel_rfl) (by kernel_rfl) (fun _ _ _ _ h => h) (by rfl) HS0.out ?_
  apply Exists.intro
  refine ⟨fun w' hw' => ?_, ?_⟩
  · obtain ⟨q1, q2, q3, q4, q5, q6, q7, q8, q9, q10⟩ := HQ.out w' hw'
    go_simp
    first | done | rfl
  try simp only [Act.put, List.setIfInBounds_toArray, List.set_cons_zero, List.set_cons_succ]
  refine UntH.take (i := 2) (some 19) rfl rfl (by kernel_rfl) (by kernel_rfl) (by kernel_rfl) (by kernel_rfl) (fun _ _ _ _ h => h) (by rfl) HS0.out ?_
  apply Exists.intro
  refine ⟨fun w' hw' => ?_, ?_⟩
  · obtain ⟨q1, q2, q3, q4, q5, q6, q7, q8, q9, q10⟩ := HQ.out w' hw'
    go_simp
    first | done | rfl
  try simp only [Act.put, List.setIfInBounds_toArray, List.set_cons_zero, List.set_cons_succ]
  refine UntH.take (i := 3) (some 20) rfl rfl (by kernel_rfl) (by kernel_rfl) (by kernel_rfl) (by kernel_rfl) (fun _ _ _ _ h => h) (by rfl) HS0.out ?_
  apply Exists.intro
  refine ⟨fun w' hw' => ?_, ?_⟩
  · obtain ⟨q1, q2, q3, q4, q5, q6, q7, q8, q9, q10⟩ := HQ.out w' hw'
    go_simp
    first | done | rfl
  try simp only [Act.put, List.setIfInBounds_toArray, List.set_cons_zero, List.set_cons_succ]
  refine UntH.take (i := 4) (some 21) rfl rfl (by kernel_rfl) (by kernel_rfl) (by kernel_rfl) (by kernel_rfl) (fun _ _ _ _ h => h) (by rfl) HS0.out ?_
  apply Exists.intro
  refine ⟨fun w' hw' => ?_, ?_⟩
  · obtain ⟨q1, q2, q3, q4, q5, q6, q7, q8, q9, q10⟩ := HQ.out w' hw'
    go_simp
    first | done | rfl
  try simp only [Act.put, List.setIfInBounds_toArray, List.set_cons_zero, List.set_cons_succ]
  refine UntH.take (i := 5) (some 22) rfl rfl (by kernel_rfl) (by kernel_rfl) (by kernel_rfl) (by kernel_rfl) (fun _ _ _ _ h => h) (by rfl) HS0.out ?_
  apply Exists.intro
  refine ⟨fun w' hw' => ?_, ?_⟩
  · obtain ⟨q1, q2, q3, q4, q5, q6, q7, q8, q9, q10⟩ := HQ.out w' hw'
    go_simp
    first | done | rfl
  try simp only [Act.put, List.setIfInBounds_toArray, List.set_cons_zero, List.set_cons_succ]
  refine UntH.take (i := 6) (some 23) rfl rfl (by kernel_rfl) (by kernel_rfl) (by kernel_rfl) (by kernel_rfl) (fun _ _ _ _ h => h) (by rfl) HS0.out ?_
  apply Exists.intro
  refine ⟨fun w' hw' => ?_, ?_⟩
  · obtain ⟨q1, q2, q3, q4, q5, q6, q7, q8, q9, q10⟩ := HQ.out w' hw'
    go_simp
    first | done | rfl
  try simp only [Act.put, List.setIfInBounds_toArray, List.set_cons_zero, List.set_cons_succ]
  refine UntH.take (i := 7) (some 24) rfl rfl (by kernel_rfl) (by kernel_rfl) (by kernel_rfl) (by kernel_rfl) (fun _ _ _ _ h => h) (by rfl) HS0.out ?_
  apply Exists.intro
  refine ⟨fun w' hw' => ?_, ?_⟩
  · obtain ⟨q1, q2, q3, q4, q5, q6, q7, q8, q9, q10⟩ := HQ.out w' hw'
    go_simp
    first | done | rfl
  try simp only [Act.put, List.setIfInBounds_toArray, List.set_cons_zero, List.set_cons_succ]
  refine UntH.take (i := 8) (some 25) rfl rfl (by kernel_rfl) (by kernel_rfl) (by kernel_rfl) (by kernel_rfl) (fun _ _ _ _ h => h) (by rfl) HS0.out ?_
  apply Exists.intro
  refine ⟨fun w' hw' => ?_, ?_⟩
  · obtain ⟨q1, q2, q3, q4, q5, q6, q7, q8, q9, q10⟩ := HQ.out w' hw'
    go_simp
    first | done | rfl
  try simp only [Act.put, List.setIfInBounds_toArray, List.set_cons_zero, List.set_cons_succ]
  refine UntH.last (by kernel_rfl) rfl (by kernel_rfl) (by kernel_rfl) (fun K hK => ?_)
  go_simp
  refine (HCB.out _ XD.out).mono ?_
  rintro e w4 ⟨rfl, r4, x4⟩
  refine hK _ _ ?_
  have R4 := hide r4
  have X5 := hide x4
  clear hK K r4 x4
  go_wp2
  go_end0
  exact ⟨rfl, R4.out, X4.out.trans ((KpO.of_below XD.out).trans X5.out)⟩
end Go.Proofs.YtlmhofjiobmodaaGreatDoor
