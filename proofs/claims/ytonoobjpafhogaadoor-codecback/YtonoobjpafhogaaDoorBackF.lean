/-
  CodecBack's texts as they lie behind their making, and behind the append. No walk. Conditions: as in each.
-/
import Derived.Test.YtonoobjpafhogaaDoorBackE
import Derived.Laws.AppendOwn
namespace Go.Proofs.YtonoobjpafhogaaDoor
open Go.RowKit

theorem addr_add0 (b n : Nat) : (⟨b, 0, none⟩ : Addr).add n = ⟨b, n, none⟩ := by unfold Addr.add; split <;> simp_all
/-- The two blocks; the third text's block. -/
abbrev W2 (w : World) (A B : ByteArray) : World :=
  (w.alloc (.cells #[.string A, .string B] 9)).alloc (.cells #[.int .i64 0, .int .i64 13, .int .i64 12] 48)
abbrev W3 (w : World) (A B C : ByteArray) : World := (W2 w A B).alloc (.cells #[.string C] 9)

theorem below_w2 (w : World) (A B : ByteArray) : Below w.heap.size w (W2 w A B) :=
  ((Below.refl _ _).alloc (Nat.le_refl _) _).alloc (by simp) _
theorem below_w3 (w : World) (A B C : ByteArray) : Below w.heap.size w (W3 w A B C) :=
  (below_w2 w A B).alloc (by simp; omega) _
theorem add_text (L : List UInt8) (more : ByteArray) : str L ++ ByteArray.mk #[120] ++ more = str (L ++ (120 :: more.data.toList)) := by
  rw [str_append, str_append]
  congr 1
  simp
theorem drop_text (L : List UInt8) : (str L).extract 0 ((str L).size - 1) = str L.dropLast := by
  rw [extract_front, str_toList, str_size, List.dropLast_eq_take]
theorem ts2 {N wb len : Nat} {f : Nat → OpD} {w w6 : World} {T more : ByteArray} (h : PSt N wb f w w6 len) (hT : str (encs f len) = T) :
    TSt N w6.heap.size (w6.heap.size + 1) 2 (tD f len more.data.toList) w (W2 w6 T (T ++ ByteArray.mk #[120] ++ more)) := by
  subst hT
  have hb := below_w2 w6 (str (encs f len)) (str (encs f len) ++ ByteArray.mk #[120] ++ more)
  have hb' : Below N w6 _ := hb.mono h.ns
  refine ⟨fun k hk => ?_, fun k hk => ?_, by simp; omega, by simp, by have := h.ns; simp; omega, h.below.trans hb', h.hg.below hb' h.npos, h.npos⟩
  · rcases (show k = 0 ∨ k = 1 by omega) with rfl | rfl
    · simp [tD]
    · rw [add_text]; simp [tD]
  · rcases (show k = 0 ∨ k = 1 by omega) with rfl | rfl <;> simp [cW]
theorem own2 {N wb len : Nat} {f : Nat → OpD} {w w6 : World} (h : PSt N wb f w w6 len) (A B C : ByteArray) :
    (W3 w6 A B C).ownsRow N 9 1 (.slice (some ⟨w6.heap.size, 0, none⟩) 2 2) 2 [.string A, .string B] := by
  refine ⟨rfl, .inr ⟨w6.heap.size, 2, #[.string A, .string B], rfl, h.ns, ?_, by decide, by decide, rfl, rfl⟩⟩
  have s1 : w6.heap.size < (w6.alloc (.cells #[.string A, .string B] 9)).heap.size := by simp
  have s2 : w6.heap.size < (W2 w6 A B).heap.size := by simp; omega
  rw [heap_alloc_old _ _ s2, heap_alloc_old _ _ s1, heap_alloc_new]
theorem news3 (w6 : World) (A B C : ByteArray) : ∀ j u, ([.string C] : List Value)[j]? = some u → (W3 w6 A B C).cell? ((⟨w6.heap.size + 1 + 1, 0, none⟩ : Addr).add j) = some u := by
  intro j u hu
  match j, hu with
  | 0, hu =>
    simp at hu
    subst hu
    have e : (⟨w6.heap.size + 1 + 1, 0, none⟩ : Addr).add 0 = ⟨w6.heap.size + 1 + 1, 0, none⟩ := rfl
    rw [e]
    have h := World.cell?_alloc_new (w := W2 w6 A B) #[.string C] 9 0
    simp only [W2, World.size_alloc] at h
    exact h
theorem ts3 {N wb len : Nat} {f : Nat → OpD} {w w6 w8 : World} {T more : ByteArray} {v : Value} (h : PSt N wb f w w6 len) (hT : str (encs f len) = T)
    (ho : w8.ownsRow N 9 1 v (2 + 1) ([.string T, .string (T ++ ByteArray.mk #[120] ++ more)] ++ [.string (T.extract 0 (T.size - 1))]))
    (hgr : (W3 w6 T (T ++ ByteArray.mk #[120] ++ more) (T.extract 0 (T.size - 1))).grownBy w8 (some w6.heap.size)) :
    ∃ g cap, v = .slice (some ⟨g, 0, none⟩) 3 cap ∧ TSt N g (w6.heap.size + 1) 3 (tD f len more.data.toList) w w8 := by
  subst hT
  rcases ho.2 with ⟨_, h3⟩ | ⟨g, cap, cur, hv, _⟩
  · omega
  refine ⟨g, cap, hv, ?_⟩
  subst hv
  have hb := below_w3 w6 (str (encs f len)) (str (encs f len) ++ ByteArray.mk #[120] ++ more) ((str (encs f len)).extract 0 ((str (encs f len)).size - 1))
  have hk : Kept (fun j => j = w6.heap.size) w6 w8 := (Kept.of_below hb).grown hgr (fun k hk => by injection hk with hk; exact hk.symm)
  have hb' : Below N w6 w8 := hk.below h.ns (fun i hi => by rw [hi]; exact h.ns)
  have hsz := hgr.size
  simp at hsz
  have hc := ho.cells (g := g) rfl
  refine ⟨fun k hk3 => ?_, fun k hk3 => ?_, (ho.lt g rfl).2, by omega, Nat.le_trans h.ns hk.size, h.below.trans hb', h.hg.below hb' h.npos, h.npos⟩
  · have := hc k (.string (str (tD f len more.data.toList k))) (by
      rw [add_text, drop_text]
      rcases (show k = 0 ∨ k = 1 ∨ k = 2 by omega) with rfl | rfl | rfl <;> simp [tD])
    rw [addr_add0] at this
    exact this
  · have h0 : (W3 w6 (str (encs f len)) (str (encs f len) ++ ByteArray.mk #[120] ++ more) ((str (encs f len)).extract 0 ((str (encs f len)).size - 1))).cell? ⟨w6.heap.size + 1, k, none⟩ = some (.int .i64 (cW k)) := by
      rw [World.cell?_alloc_lt (W2 w6 _ _) _ ⟨w6.heap.size + 1, k, none⟩ (by simp)]
      rcases (show k = 0 ∨ k = 1 ∨ k = 2 by omega) with rfl | rfl | rfl <;> simp [cW]
    exact hgr.cell h0 (by simp)
end Go.Proofs.YtonoobjpafhogaaDoor
