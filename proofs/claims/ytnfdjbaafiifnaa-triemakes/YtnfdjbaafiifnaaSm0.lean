/-
  Two tries and lists beside them. No condition.
-/
import Derived.Test.YtnfdjbaafiifnaaFt
import Derived.Test.YtnfdjbaafiifnaaMSay
namespace Go.Proofs.Ytnfdjbaafiifnaa
open Go.RowKit Go.Lib

theorem TrieAt.blk {w : World} {t : Tr} {b : Nat} (h : TrieAt w t (.pointer (some ⟨b, 0, none⟩))) : ∃ r, w.heap[b]? = some (.cells #[r] 73 (0, 0)) := by
  obtain ⟨b', r, e, h1, _⟩ := h
  injection e with e; injection e with e; injection e with e; subst e
  exact ⟨r, h1⟩
theorem TrieAt.lt {w : World} {t : Tr} {b : Nat} (h : TrieAt w t (.pointer (some ⟨b, 0, none⟩))) : b < w.heap.size := by
  obtain ⟨r, h1⟩ := h.blk
  exact lt_of_block h1
/-- Another trie's change. -/
theorem TrieAt.other {w w' : World} {t t' : Tr} {b b' : Nat} (h : TrieAt w t (.pointer (some ⟨b, 0, none⟩))) (h' : TrieAt w t' (.pointer (some ⟨b', 0, none⟩))) (hne : b ≠ b') (hk : Kept (fun x => x = b') w w') : TrieAt w' t (.pointer (some ⟨b, 0, none⟩)) := by
  obtain ⟨r', hr'⟩ := h'.blk
  obtain ⟨b0, r, e, h1, h2⟩ := h
  injection e with e; injection e with e; injection e with e; subst e
  exact ⟨b, r, rfl, (hk.block b (lt_of_block h1) hne).trans h1, NodeAt.kept hk (fun k hf => ⟨#[r'], 73, (0, 0), (congrArg (fun z => w.heap[z]?) (show k = b' from hf)).trans hr', by decide⟩) h2⟩
/-- A list's memory beside a trie's change. -/
theorem own_kept73 {w w' : World} {base b size n : Nat} {T : TypeId} {v : Value} {xs : List Value} {t : Tr} (h : w.ownsRow base T size v n xs) (hT : T ≠ 73) (ht : TrieAt w t (.pointer (some ⟨b, 0, none⟩))) (hk : Kept (fun x => x = b) w w') : w'.ownsRow base T size v n xs := by
  refine own_kept h hk fun k h3 h4 => ?_
  subst h4
  obtain ⟨cs, h5⟩ := own_ty h k h3
  obtain ⟨r, h1⟩ := ht.blk
  rw [h5] at h1
  simp at h1
  exact hT h1.2
/-- The cells of rows of whatever kind. -/
theorem own_cells3 {w : World} {base : Nat} {T : TypeId} {v : Value} {R : List Rw} (h : w.ownsRow base T 3 v R.length (rwCells R)) : ∃ ao cap, v = .slice ao R.length cap ∧ R.length ≤ cap ∧ RwAt w ao (zr R) := by
  rcases h.2 with ⟨rfl, hn⟩ | ⟨g, cap, cur, rfl, hb, hg, hnc, _⟩
  · refine ⟨none, 0, by rw [hn], by omega, .inl ?_⟩
    rw [List.eq_nil_of_length_eq_zero hn]; rfl
  · refine ⟨_, cap, rfl, hnc, .inr ⟨g, 0, rfl, lt_of_block hg, fun i hi => ?_⟩⟩
    rw [zr_length] at hi
    obtain ⟨h1, h2, h3⟩ := rwCells_get R i hi
    have hc : ∀ j, j < R.length * 3 → w.cell? ⟨g, j, none⟩ = (rwCells R)[j]? := fun j hj => World.ownsRow.cellAt h j (by omega)
    have e : (zr R).getD i ((0, 0), 0) = (((R[i].1.1 : Int), (R[i].1.2 : Int)), R[i].2) := by simp [zr, List.getD_eq_getElem?_getD, hi]
    rw [e, Nat.zero_add]
    exact ⟨(hc _ (by omega)).trans h1, (hc _ (by omega)).trans h2, (hc _ (by omega)).trans h3⟩
/-- One row's cells. -/
theorem own_cell3 {w : World} {base g n cap : Nat} {T : TypeId} {R : List Rw} (h : w.ownsRow base T 3 (.slice (some ⟨g, 0, none⟩) n cap) R.length (rwCells R)) (i : Nat) (hi : i < R.length) : w.cell? ⟨g, i * 3, none⟩ = some (.int .i64 (R[i].1.1 : Nat)) ∧ w.cell? ⟨g, i * 3 + 1, none⟩ = some (.int .i64 (R[i].1.2 : Nat)) ∧ w.cell? ⟨g, i * 3 + 2, none⟩ = some (.int .i64 R[i].2) := by
  obtain ⟨h1, h2, h3⟩ := rwCells_get R i hi
  have hn : n = R.length := by
    rcases h.2 with ⟨e, _⟩ | ⟨g', cap', cur, e, _⟩
    · cases e
    · injection e with _ e _
  subst hn
  have hc : ∀ j, j < R.length * 3 → w.cell? ⟨g, j, none⟩ = (rwCells R)[j]? := fun j hj => World.ownsRow.cellAt h j (by omega)
  exact ⟨(hc _ (by omega)).trans h1, (hc _ (by omega)).trans h2, (hc _ (by omega)).trans h3⟩
theorem own_zr {w : World} {base n cap : Nat} {T : TypeId} {ao : Option Addr} {R : List Rw} (h : w.ownsRow base T 3 (.slice ao n cap) R.length (rwCells R)) : RwAt w ao (zr R) := by
  obtain ⟨ao', cap', e, _, h1⟩ := own_cells3 h
  injection e with e1 _ _
  rw [e1]
  exact h1
theorem own_le_cap {w : World} {base n cap size : Nat} {T : TypeId} {ao : Option Addr} {m : Nat} {xs : List Value} (h : w.ownsRow base T size (.slice ao n cap) m xs) : m ≤ cap := by
  rcases h.2 with ⟨e, hn⟩ | ⟨g, cap', cur, e, hb, hg, hnc, _⟩
  · omega
  · injection e with _ _ e3
    subst e3
    exact hnc
theorem pfx_al {r : Rw} (h : Al r) : Pfx (r.1.1 : Int) (r.1.2 : Int) := by
  obtain ⟨h1, h2, h3⟩ := h
  have hp : 0 < 2 ^ (32 - r.1.2) := Nat.pow_pos (by decide)
  exact ⟨by omega, by omega, by omega, by omega, by simpa using h3⟩
/-- Put of a right row. -/
theorem putR_any {t : Tr} {b : Nat} (r : Rw) (w : World) (hr : Al r) (hl : Lab r.2) (h : TrieAt w t (.pointer (some ⟨b, 0, none⟩))) : Calls Try.prog 18 #[.pointer (some ⟨b, 0, none⟩), .agg #[.int .i64 (r.1.1 : Nat), .int .i64 (r.1.2 : Nat)], .int .i64 r.2] w fun e w' =>
    e = .returned (.int .i64 0) ∧ TrieAt w' (t.put r.1.1 r.1.2 r.2) (.pointer (some ⟨b, 0, none⟩)) ∧ Kept (fun x => x = b) w w' :=
  (putT_any _ _ _ w h).mono fun e w' ⟨h1, _, h3⟩ => by
    obtain ⟨h4, h5⟩ := h1 ⟨pfx_al hr, hl⟩
    exact ⟨h4, by simpa using h5, h3⟩
theorem ft_al (r : RZ) : Al (ftZ r) := by
  have h1 := pkZ_lt r.1.2 (n := 33) (by decide)
  have h2 := pkZ_lt r.1.1 (n := 4294967296) (by decide)
  unfold ftZ
  generalize pkZ r.1.2 33 = s at *
  generalize pkZ r.1.1 4294967296 = x at *
  have e : 2 ^ s * 2 ^ (32 - s) = 4294967296 := by rw [← Nat.pow_add, show s + (32 - s) = 32 by omega]
  have hp : 0 < 2 ^ (32 - s) := Nat.pow_pos (by decide)
  refine ⟨show s ≤ 32 by omega, ?_, Nat.mul_mod_left _ _⟩
  have h3 : x / 2 ^ (32 - s) < 2 ^ s := by rw [Nat.div_lt_iff_lt_mul hp, e]; exact h2
  calc x / 2 ^ (32 - s) * 2 ^ (32 - s) + 2 ^ (32 - s) = (x / 2 ^ (32 - s) + 1) * 2 ^ (32 - s) := by rw [Nat.add_mul, Nat.one_mul]
    _ ≤ 2 ^ s * 2 ^ (32 - s) := Nat.mul_le_mul_right _ h3
    _ = 4294967296 := e
theorem ft_lab (r : RZ) : Lab (ftZ r).2 := by
  have := pkZ_lt r.2 (n := 65536) (by decide)
  show 0 ≤ ((pkZ r.2 65536 : Nat) : Int) ∧ ((pkZ r.2 65536 : Nat) : Int) ≤ 65535
  omega
/-- A trie that was put so. -/
structure Good (t : Tr) : Prop where
  nf : t.nf
  dep : t.dep ≤ 32
  labs : t.labs Lab
theorem Good.leaf {l : Int} (h : Lab l) : Good (.leaf l) := ⟨trivial, by simp [Tr.dep], h⟩
theorem Good.put {t : Tr} (h : Good t) {r : Rw} (hr : Al r) (hl : Lab r.2) : Good (t.put r.1.1 r.1.2 r.2) := ⟨put_nf _ _ _ h.nf, put_dep 32 _ _ _ h.dep hr.1, put_labs hl _ _ _ h.labs⟩
theorem Good.putAll {R : List Rw} {t : Tr} (h : Good t) (hR : ∀ r ∈ R, Al r ∧ Lab r.2) : Good (putAll t R) := ⟨putAll_nf R t h.nf, putAll_dep R t (fun r hr => (hR r hr).1.1) h.dep, putAll_labs R t (fun r hr => (hR r hr).2) h.labs⟩
theorem Good.rows {t : Tr} (h : Good t) : ∀ r ∈ t.rows 0 0, Al r ∧ Lab r.2 := fun r hr => ⟨(rows_al t 0 0 (by have := h.dep; omega) (by decide) (by decide) r hr).1, rows_labs t 0 0 h.labs r hr⟩
theorem Good.len {t : Tr} (h : Good t) : (t.rows 0 0).length ≤ 4294967296 := by
  have := rows_length t 0 0 (by have := h.dep; omega)
  simpa using this
end Go.Proofs.Ytnfdjbaafiifnaa
