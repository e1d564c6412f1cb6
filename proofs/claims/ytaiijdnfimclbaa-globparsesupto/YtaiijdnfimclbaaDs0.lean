/-
  The document's set by its contract. Condition: the text has at most 2^32 bytes.
-/
import Derived.Test.YtaiijdnfimclbaaMDs
import Derived.Test.YtaiijdnfimclbaaSets
import Derived.Test.YtaiijdnfimclbaaRef5
namespace Go.Proofs.Ytaiijdnfimclbaa
open Go.RowKit Go.Lib

/-- What the document's set tells. -/
def DsIs (n base : Nat) (R : Except By (Pc × By)) (e : Ending) (w' : World) : Prop := (∃ p t so sc, R = .ok (p, t) ∧ e = .returned (.tuple #[.agg #[.int .i64 3, .int .i64 0, .bool p.no, .slice so p.set.length sc], .int .i64 ((n - t.length : Nat) : Int), .int .i64 0]) ∧ OwnS w' base (.slice so p.set.length sc) p.set) ∨ (∃ t no, R = .error t ∧ e = .returned (.tuple #[.agg #[.int .i64 3, .int .i64 0, .bool no, .slice none 0 0], .int .i64 (-1), .int .i64 ((n - t.length : Nat) : Int)]))
/-- What stands while the document reads a set. -/
structure DsS (w : World) (s : By) (no : Bool) (R : Except By (List Spn × By)) (v : Value) (A : List Spn) (k N : Nat) (wr : World) : Prop where
  own : OwnS wr (w.heap.size + 2) v A
  le : k ≤ s.length
  its : itsL N (s.drop k) A = R
  fuel : (s.drop k).length < N
  inb : ∀ x ∈ A, InB x
  z4 : wr.heap[w.heap.size]? = some (.cells #[.int .i64 0, .int .i64 0, .bool false, .slice none 0 0] 44 (0, 0))
  p7 : wr.heap[w.heap.size + 1]? = some (.cells #[.int .i64 3, .int .i64 0, .bool no, .slice none 0 0] 44 (0, 0))
  bel : Below w.heap.size w wr
  alen : A.length ≤ k
theorem DsS.next {w : World} {s : By} {no : Bool} {R : Except By (List Spn × By)} {v : Value} {A : List Spn} {k N : Nat} {wr : World} (h : DsS w s no R v A k N wr) (hm : (!A.isEmpty && [93].isPrefixOf (s.drop k)) = false) {x : Spn} {t : By} (hi : itL (s.drop k) = .ok (x, t)) {wq : World} {v' : Value}
    (h1 : wq.ownsRow (w.heap.size + 2) 59 2 v' (A.length + 1) (spCells A ++ [.int .i64 x.1, .int .i64 x.2])) (x0 : Below (w.heap.size + 2) wr wq) : ∃ N', DsS w s no R v' (A ++ [x]) (s.length - t.length) N' wq ∧ s.length - t.length > k := by
  obtain ⟨a1, a2, a3, a4, a5⟩ := itL_ok hi
  have hN := h.fuel
  obtain ⟨N', rfl⟩ : ∃ N', N = N' + 1 := ⟨N - 1, by omega⟩
  have hts : t <:+ s := a2.trans (List.drop_suffix _ _)
  have ht := suffix_at hts
  have hle := hts.length_le
  have hld : (s.drop k).length = s.length - k := List.length_drop
  have hk := h.le
  refine ⟨N', ⟨?_, by omega, ?_, ?_, ?_, (x0.block _ (by omega)).trans h.z4, (x0.block _ (by omega)).trans h.p7, h.bel.trans (x0.mono (by omega)), ?_⟩, by omega⟩
  · unfold OwnS
    rw [List.length_append, List.length_singleton, spCells_append]
    exact h1
  · rw [← ht, ← its_go hm hi]
    exact h.its
  · rw [← ht]; omega
  · intro y hy
    rcases List.mem_append.1 hy with hy | hy
    · exact h.inb y hy
    · rw [List.mem_singleton.1 hy]; exact ⟨a3, a4, a5⟩
  · have := h.alen
    rw [List.length_append, List.length_singleton]
    omega
theorem DsS.bad {w : World} {s : By} {no : Bool} {R : Except By (List Spn × By)} {v : Value} {A : List Spn} {k N : Nat} {wr : World} (h : DsS w s no R v A k N wr) (hm : (!A.isEmpty && [93].isPrefixOf (s.drop k)) = false) {t : By} (hi : itL (s.drop k) = .error t) : R = .error t := by
  have hN := h.fuel
  obtain ⟨N', rfl⟩ : ∃ N', N = N' + 1 := ⟨N - 1, by omega⟩
  rw [← h.its, its_bad hm hi]
theorem DsS.minus {w : World} {s : By} {no : Bool} {R : Except By (List Spn × By)} {v : Value} {A : List Spn} {k N : Nat} {wr : World} (h : DsS w s no R v A k N wr) (hm : (!A.isEmpty && [93].isPrefixOf (s.drop k)) = false) {x : Spn} {t : By} (hi : itL (s.drop k) = .ok (x, t)) (h45 : [45].isPrefixOf t = true) : R = .error t := by
  have hN := h.fuel
  have ht := (itL_ok hi).1
  have hp : 0 < t.length := by
    cases t with
    | nil => cases h45
    | cons c t => simp
  obtain ⟨N', rfl⟩ : ∃ N', N = N' + 2 := ⟨N - 2, by omega⟩
  rw [← h.its, its_go hm hi, its_minus h45]
theorem DsS.good {w : World} {s : By} {no : Bool} {R : Except By (List Spn × By)} {v : Value} {A : List Spn} {k N : Nat} {wr : World} (h : DsS w s no R v A k N wr) (hm : (!A.isEmpty && [93].isPrefixOf (s.drop k)) = true) : R = .ok (A, s.drop (k + 1)) := by
  have hN := h.fuel
  obtain ⟨N', rfl⟩ : ∃ N', N = N' + 1 := ⟨N - 1, by omega⟩
  rw [← h.its, its_end hm, List.drop_drop]
end Go.Proofs.Ytaiijdnfimclbaa
