/-
  Rows by its contract. No condition.
-/
import Derived.Test.YtnfdjbaafiifnaaWk
namespace Go.Proofs.Ytnfdjbaafiifnaa
open Go.RowKit Go.Lib

set_option maxRecDepth 100000 in
set_option maxHeartbeats 1000000 in
theorem rows_any {t : Tr} {v : Value} (w : World) (hd : t.dep ≤ 32) (h : TrieAt w t v) : Calls Try.prog 16 #[v] w fun e w' => (∃ r, e = .returned r ∧ OwnR w' w.heap.size r (t.rows 0 0)) ∧ Below w.heap.size w w' := by
  have hmf : ∀ (fn : Fn) (first cap : Array Value) (w : World), (Instr.makeFunc fn first cap).run Try.prog w = .ok (.func fn first cap) w := fun _ _ _ _ => rfl
  obtain ⟨b, r, rfl, h1, h2⟩ := h
  have hX : Below w.heap.size w (w.alloc (.cells #[.slice none 0 0] 44)) := al (Below.refl _ _) _
  have hO : OutS w.heap.size w.heap.size [] (w.alloc (.cells #[.slice none 0 0] 44)) := ⟨Nat.le_refl _, _, heap_alloc_new _ _, World.ownsRow_nil _ _ 65 3⟩
  have hw := walk_any w.heap.size w.heap.size t r 0 0 [] (w.alloc (.cells #[.slice none 0 0] 44)) (by omega) (by decide) (Nat.le_refl _) (h2.inB.below hX) hO hX.size
  have hb := lt_of_block h1
  have c0 : (w.alloc (.cells #[.slice none 0 0] 44)).cell? ⟨b, 0, none⟩ = some r := by rw [cell_of_row _ b 0 _ _ _ ((hX.block b hb).trans h1)]; rfl
  obtain ⟨br, _, _, rfl, _⟩ := h2.shape
  have HX := hide hX
  clear h1 h2 hO hX
  go_enter Try.func16, Try.ntmps16
  go_wp2_with (go_at_call 34; refine hw.mono ?_; rintro e w2 ⟨rfl, o2, x2, _⟩; obtain ⟨v2, o3, o4⟩ := o2.ex; have c2 : w2.cell? ⟨w.heap.size, 0, none⟩ = some v2 := (by rw [cell_of_row w2 w.heap.size 0 _ _ _ o3]; rfl); obtain ⟨a2, k2, rfl, _⟩ := own_shape o4; have O4 := hide o4; have X2 := hide (HX.out.trans x2); clear x2 o2 o3 o4 hw)
  go_ret
  exact ⟨⟨_, rfl, O4.out⟩, X2.out⟩
end Go.Proofs.Ytnfdjbaafiifnaa
