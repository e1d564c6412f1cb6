/-
  The code's order of states (by labels, then by numbers), and slices.SortFunc by it. Condition: at most 65536 states.
-/
import Derived.Test.YtdgoilkgplnhfaaGreatB04
import Derived.Test.YtdgoilkgplnhfaaGreatB13
import Derived.Shelf.SlSortCmp.NoneTotal
import Derived.Deep.RegionWith
namespace Go.Proofs.YtdgoilkgplnhfaaGreat
open Go.RowKit Go.Lib Go.Sort

/-- The first that is not 0. -/
def orZ (a c : Int) : Int := if a = 0 then c else a
set_option maxRecDepth 100000 in
theorem or_any (b cap : Nat) (a c : Int) (w : World) (h0 : w.cell? ⟨b, 0, none⟩ = some (.int .i64 a)) (h1 : w.cell? ⟨b, 1, none⟩ = some (.int .i64 c)) :
    Calls Tryz.prog 137 #[.slice (some ⟨b, 0, none⟩) 2 cap] w fun e w' => e = .returned (.int .i64 (orZ a c)) ∧ w' = w := by
  have HC : Hid (∀ i, i < 2 → w.cell? ⟨b, i, none⟩ = some (.int .i64 (if i = 0 then a else c))) := fun i hi => by
    match i, hi with
    | 0, _ => simpa using h0
    | 1, _ => simpa using h1
  clear h0 h1
  go_enter Tryz.func137, Tryz.ntmps137
  go_wp2
  go_loopg [8] 3 (fun g x wr => ∃ i : Nat, x = .int .i64 (i : Nat) ∧ i ≤ 2 ∧ Hid ((1 ≤ i → a = 0) ∧ (2 ≤ i → c = 0)) ∧ wr = w ∧ 2 - i < g)
  case atStart => exact ⟨0, rfl, by omega, ⟨fun h => by omega, fun h => by omega⟩, rfl, by omega⟩
  case round =>
    obtain ⟨i, rfl, hi2, HZ, rfl, hg⟩ := hrel
    have HG := hide hg
    clear hg
    by_cases hi : i < 2
    · have hi' : (i : Int) < 2 := by omega
      have ci := HC.out i hi
      obtain ⟨z, hz⟩ : ∃ z, z = (if i = 0 then a else c) := ⟨_, rfl⟩
      rw [← hz] at ci
      have HZZ := hide hz
      clear hz
      by_cases hzz : z = 0
      · have hzz' : ¬ ¬ z = 0 := fun h => h hzz
        go_wp2
        go_roundg (2 - (i + 1) + 1)
        case measure => have := HG.out; omega
        case rel =>
          refine ⟨i + 1, by first | rfl | go_num | (congr 1; omega), by omega, ⟨fun _ => ?_, fun h => ?_⟩, rfl, by omega⟩
          · by_cases e : i = 0
            · have := HZZ.out; rw [if_pos e] at this; rw [← this]; exact hzz
            · exact HZ.out.1 (by omega)
          · have := HZZ.out; rw [if_neg (by omega)] at this; rw [← this]; exact hzz
      · go_wp2
        go_ret
        refine ⟨?_, rfl⟩
        have := HZZ.out
        unfold orZ
        by_cases e : i = 0
        · rw [if_pos e] at this; subst this; rw [if_neg hzz]; rfl
        · rw [if_neg e] at this; subst this; rw [if_pos (HZ.out.1 (by omega))]; rfl
    · have hi' : ¬ (i : Int) < 2 := by omega
      go_wp2
      go_ret
      have h1 := HZ.out.1 (by omega)
      have h2 := HZ.out.2 (by omega)
      refine ⟨?_, rfl⟩
      unfold orZ
      rw [if_pos h1, h2]; rfl
theorem cmp129 (a b : Int) (W : World) : Calls Tryz.prog 129 #[.int .i64 a, .int .i64 b] W fun e w' => e = .returned (.int .i64 (Lib.compareInt a b)) ∧ w' = W := AnyG.cmp_Compare_int Tryz.cmpInt a b W
/-- The order: by labels, then by numbers. -/
def cfO (OU : List Nat) (x y : Nat) : Int := orZ (Lib.compareInt (gN OU x : Int) (gN OU y : Int)) (Lib.compareInt (x : Int) (y : Int))
set_option maxRecDepth 100000 in
set_option maxHeartbeats 2000000 in
theorem cmp136_any (oa : Option Addr) (oc cb x y : Nat) (OU : List Nat) (w : World) (hx : x < OU.length) (hy : y < OU.length) (hcb : w.cell? ⟨cb, 0, none⟩ = some (.slice oa OU.length oc)) (hcl : cb < w.heap.size) (hat : NAt w oa OU) :
    Calls Tryz.prog 136 #[.int .i64 (x : Nat), .int .i64 (y : Nat), .pointer (some ⟨cb, 0, none⟩)] w fun e w' => e = .returned (.int .i64 (cfO OU x y)) ∧ ∃ q os', w' = grow (w.drewN q) os' := by
  obtain ⟨ob, off, rfl, hob, c1⟩ := hat.get hx
  obtain ⟨_, _, e0, _, c2⟩ := hat.get hy
  simp only [Option.some.injEq, Addr.mk.injEq, and_true] at e0
  obtain ⟨rfl, rfl⟩ := e0
  rw [← gN_lt hx] at c1
  rw [← gN_lt hy] at c2
  have x' : (x : Int) < (OU.length : Int) := by omega
  have y' : (y : Int) < (OU.length : Int) := by omega
  have H129 := hide cmp129
  unfold cfO
  clear hat
  generalize gN OU x = a at *
  generalize gN OU y = b at *
  have B1 := heap_alloc_new w (.cells #[.int .i64 (Lib.compareInt (a : Int) (b : Int)), .int .i64 (Lib.compareInt (x : Int) (y : Int))] 3)
  have HOR := hide (or_any w.heap.size 2 (Lib.compareInt (a : Int) (b : Int)) (Lib.compareInt (x : Int) (y : Int)) (w.alloc (.cells #[.int .i64 (Lib.compareInt (a : Int) (b : Int)), .int .i64 (Lib.compareInt (x : Int) (y : Int))] 3)).drew (by show (w.alloc (.cells #[.int .i64 (Lib.compareInt (a : Int) (b : Int)), .int .i64 (Lib.compareInt (x : Int) (y : Int))] 3)).cell? _ = _; rw [cell_of_row _ _ _ _ _ _ B1]; rfl) (by show (w.alloc (.cells #[.int .i64 (Lib.compareInt (a : Int) (b : Int)), .int .i64 (Lib.compareInt (x : Int) (y : Int))] 3)).cell? _ = _; rw [cell_of_row _ _ _ _ _ _ B1]; rfl))
  have n1 : ¬ cb = w.heap.size := by omega
  have n2 : ¬ ob = w.heap.size := by omega
  clear B1
  go_enter Tryz.func136, Tryz.ntmps136
  go_wp2
  go_region_held3 (fun w' => w'.cell? ⟨cb, 0, none⟩ = some (.slice (some ⟨ob, off, none⟩) OU.length oc) ∧ w'.cell? ⟨ob, off + x, none⟩ = some (.int .i64 (a : Int)) ∧ w'.cell? ⟨ob, off + y, none⟩ = some (.int .i64 (b : Int))) (first | assumption | exact ⟨hcb, c1, c2⟩ | (simp [go_sem, *]; done))
    ((first
      | (go_at_call 129; refine (H129.out _ _ _).mono ?_; rintro e w' ⟨rfl, rfl⟩)
      | (go_at_call 137; refine HOR.out.mono ?_; rintro e w' ⟨rfl, rfl⟩)))
  all_goals
    go_wp2
    go_ret
    exact ⟨rfl, 1, #[.cells #[.int .i64 (Lib.compareInt (a : Int) (b : Int)), .int .i64 (Lib.compareInt (x : Int) (y : Int))] 3 (0, 0)], by rw [alloc_eq_grow]; rfl⟩
end Go.Proofs.YtdgoilkgplnhfaaGreat
