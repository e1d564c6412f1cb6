/-
  TrieMakes, walked: whatever it is given, it answers true; nothing that was there has turned. Condition: the list takes no more than a process can hold.
-/
import Derived.Test.YtnfdjbaafiifnaaMade
namespace Go.Proofs.Ytnfdjbaafiifnaa
open Go.RowKit Go.Lib

set_option maxRecDepth 100000 in
set_option maxHeartbeats 4000000 in
theorem trieMakes_any (ao : Option Addr) (cap : Nat) (L : List RZ) (w : World) (hl : L.length ≤ 140737488351232) (hat : RwAt w ao L) :
    Calls Try.prog 4 #[.slice ao L.length cap] w fun e w' => e = .returned (.bool true) ∧ Below w.heap.size w w' := by
  by_cases hlen : L.length ≤ 2147483647
  · have hb0 : ¬ (2147483647 : Int) < (L.length : Int) := by omega
    have HAT := hide hat
    clear hat
    go_enter Try.func4, Try.ntmps4
    go_wp2_with (fail)
    refine (awake_any _).mono ?_
    rintro e w1 ⟨rfl, x1⟩
    have X1 := hide (al x1 (.cells #[.pointer none, .pointer none] 39))
    have HS1 := hide x1.size
    have B1 := hide (heap_alloc_new w1 (.cells #[.pointer none, .pointer none] 39))
    clear x1
    have hmd := made_any w1.heap.size _ _ ao cap L _ (by omega) B1.out (HAT.out.below X1.out)
    have HMD := hide hmd
    clear hmd
    go_wp2_with (fail)
    refine HMD.out.mono ?_
    rintro e w2 ⟨rfl, hk, h2⟩
    have X2 := hide (X1.out.trans (hk.below X1.out.size (fun k hk => by rw [hk]; exact HS1.out)))
    clear hk HMD
    rcases h2 with ⟨t, b, c, h1, h2, h3, h4⟩ | ⟨h1, h4⟩
    · have T2 := hide h2
      have H1 := hide h1
      have c0 : w2.cell? ⟨w1.heap.size, 0, none⟩ = some (.pointer (some ⟨b, 0, none⟩)) := by rw [cell_of_row w2 w1.heap.size 0 _ _ _ h4]; rfl
      obtain ⟨hL, _, _, hd⟩ := rdT_some h1
      rw [List.append_nil] at hL
      have HL := hide hL
      have HD := hide hd
      clear h1 h2 h3 h4 hL hd
      go_wp2_with (fail)
      refine (rows_any _ HD.out T2.out).mono ?_
      rintro e w3 ⟨⟨v, rfl, o3⟩, x3⟩
      have X3 := hide (bt X2.out x3 (Nat.le_refl _))
      obtain ⟨a3, c3, rfl, _, hr3⟩ := o3.at'
      rw [← HL.out] at hr3
      have hrs := rowsSame_any a3 ao c3 cap L w3 hl hr3 (HAT.out.below X3.out)
      have HRS := hide hrs
      rw [← HL.out]
      clear o3 x3 hr3 hrs c0
      go_wp2_with (fail)
      refine HRS.out.mono ?_
      rintro e w4 ⟨rfl, x4⟩
      have X4 := hide (bt X3.out x4 (Nat.le_refl _))
      clear x4
      go_wp2
      go_ret
      exact ⟨rfl, X4.out⟩
    · have c0 : w2.cell? ⟨w1.heap.size, 0, none⟩ = some (.pointer none) := by rw [cell_of_row w2 w1.heap.size 0 _ _ _ h4]; rfl
      clear h1 h4
      go_wp2
      go_ret
      exact ⟨rfl, X2.out⟩
  · have hb0 : (2147483647 : Int) < (L.length : Int) := by omega
    clear hat
    go_enter Try.func4, Try.ntmps4
    go_wp2
    go_ret
    exact ⟨rfl, Below.refl _ _⟩
end Go.Proofs.Ytnfdjbaafiifnaa
