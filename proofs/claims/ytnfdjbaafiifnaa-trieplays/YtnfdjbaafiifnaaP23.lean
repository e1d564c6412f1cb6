/-
  Two tries and lists beside them. No condition.
-/
import Derived.Test.YtnfdjbaafiifnaaP21
import Derived.Test.YtnfdjbaafiifnaaP22
namespace Go.Proofs.Ytnfdjbaafiifnaa
open Go.RowKit Go.Lib

theorem TrieAt.blk {w : World} {t : Tr} {b : Nat} (h : TrieAt w t (.pointer (some ⟨b, 0, none⟩))) : ∃ r, w.heap[b]? = some (.cells #[r] 73 (0, 0)) := by
  obtain ⟨b', r, e, h1, _⟩ := h
  injection e with e; injection e with e; injection e with e; subst e
  exact ⟨r, h1⟩
theorem TrieAt.lt {w : World} {t : Tr} {b : Nat} (h : TrieAt w t (.pointer (some ⟨b, 0, none⟩))) : b < w.heap.size := by
  obtain ⟨r, h1⟩ := h.blk
  exact lt_of_block h1
/-- Another trie's change. -/
theorem TrieAt.other {w w' : World} {t t' : Tr} {b b' : Nat} (h : TrieAt w t (.pointer (some ⟨b, 0, none⟩))) (h' : TrieAt w t' (.pointer (some ⟨b', 0, none⟩))) (hne : b ≠ b') (hk : Kept (fun x => x = b') w w') : TrieAt w' t (.pointer (some ⟨b, 0, none⟩)) := by
  obtain ⟨r', hr'⟩ := h'.blk
  obtain ⟨b0, r, e, h1, h2⟩ := h
  injection e with e; injection e with e; injection e with e; subst e
  exact ⟨b, r, rfl, (hk.block b (lt_of_block h1) hne).trans h1, NodeAt.kept hk (fun k hf => ⟨#[r'], 73, (0, 0), (congrArg (fun z => w.heap[z]?) (show k = b' from hf)).trans hr', by decide⟩) h2⟩
/-- A list's memory beside a trie's change. -/
theorem own_kept73 {w w' : World} {base b size n : Nat} {T : TypeId} {v : Value} {xs : List Value} {t : Tr} (h : w.ownsRow base T size v n xs) (hT : T ≠ 73) (ht : TrieAt w t (.pointer (some ⟨b, 0, none⟩))) (hk : Kept (fun x => x = b) w w') : w'.ownsRow base T size v n xs := by
  refine own_kept h hk fun k h3 h4 => ?_
  subst h4
  obtain ⟨cs, h5⟩ := own_ty h k h3
  obtain ⟨r, h1⟩ := ht.blk
  rw [h5] at h1
  simp at h1
  exact hT h1.2
/-- The cells of rows of whatever kind. -/
theorem own_cells3 {w : World} {base : Nat} {T : TypeId} {v : Value} {R : List Rw} (h : w.ownsRow base T 3 v R.length (rwCells R)) : ∃ ao cap, v = .slice ao R.length cap ∧ R.length ≤ cap ∧ RwAt w ao (zr R) := by
  rcases h.2 with ⟨rfl, hn⟩ | ⟨g, cap, cur, rfl, hb, hg, hnc, _⟩
  · refine ⟨none, 0, by rw [hn], by omega, .inl ?_⟩
    rw [List.eq_nil_of_length_eq_zero hn]; rfl
  · refine ⟨_, cap, rfl, hnc, .inr ⟨g, 0, rfl, lt_of_block hg, fun i hi => ?_⟩⟩
    rw [zr_length] at hi
    obtain ⟨h1, h2, h3⟩ := rwCells_get R i hi
    have hc : ∀ j, j < R.length * 3 → w.cell? ⟨g, j, none⟩ = (rwCells R)[j]? := fun j hj => World.ownsRow.cellAt h j (by omega)
    have e : (zr R).getD i ((0, 0), 0) = (((R[i].1.1 : Int), (R[i].1.2 : Int)), R[i].2) := by simp [zr, List.getD_eq_getElem?_getD, hi]
    rw [e, Nat.zero_add]
    exact ⟨(hc _ (by omega)).trans h1, (hc _ (by omega)).trans h2, (hc _ (by omega)).trans h3⟩
/-- One row's cells. -/
theorem own_cell3 {w : World} {base g n cap : Nat} {T : TypeId} {R : List Rw} (h : w.ownsRow base T 3 (.slice (some ⟨g, 0, none⟩) n cap) R.length (rwCells R)) (i : Nat) (hi : i < R.length) : w.cell? ⟨g, i * 3, none⟩ = some (.int .i64 (R[i].1.1 : Nat)) ∧ w.cell? ⟨g, i * 3 + 1, none⟩ = some (.int .i64 (R[i].1.2 : Nat)) ∧ w.cell? ⟨g, i * 3 + 2, none⟩ = some (.int .i64 R[i].2) := by
  obtain ⟨h1, h2, h3⟩ := rwCells_get R i hi
  have hn : n = R.length := by
    rcases h.2 with ⟨e, _⟩ | ⟨g', cap', cur, e, _⟩
    · cases e
    · injection e with _ e _
  subst hn
  have hc : ∀ j, j < R.length * 3 → w.cell? ⟨g, j, none⟩ = (rwCells R)[j]? := fun j hj => World.ownsRow.cellAt h j (by omega)
  exact ⟨(hc _ (by omega)).trans h1, (hc _ (by omega)).trans h2, (hc _ (by omega)).trans h3⟩
theorem own_zr {w : World} {base n cap : Nat} {T : TypeId} {ao : Option Addr} {R : List Rw} (h : w.ownsRow base T 3 (.slice ao n cap) R.length (rwCells R)) : RwAt w ao (zr R) := by
  obtain ⟨ao', cap', e, _, h1⟩ := own_cells3 h
  injection e with e1 _ _
  rw [e1]
  exact h1
theorem own_le_cap {w : World} {base n cap size : Nat} {T : TypeId} {ao : Option Addr} {m : Nat} {xs : List Value} (h : w.ownsRow base T size (.slice ao n cap) m xs) : m ≤ cap := by
  rcases h.2 with ⟨e, hn⟩ | ⟨g, cap', cur, e, hb, hg, hnc, _⟩
  · omega
  · injection e with _ _ e3
    subst e3
    exact hnc
theorem pfx_al {r : Rw} (h : Al r) : Pfx (r.1.1 : Int) (r.1.2 : Int) := by
  obtain ⟨h1, h2, h3⟩ := h
  have hp : 0 < 2 ^ (32 - r.1.2) := Nat.pow_pos (by decide)
  exact ⟨by omega, by omega, by omega, by omega, by simpa using h3⟩
/-- Put of a right row. -/
theorem putR_any {t : Tr} {b : Nat} (r : Rw) (w : World) (hr : Al r) (hl : Lab r.2) (h : TrieAt w t (.pointer (some ⟨b, 0, none⟩))) : Calls Try.prog 18 #[.pointer (some ⟨b, 0, none⟩), .agg #[.int .i64 (r.1.1 : Nat), .int .i64 (r.1.2 : Nat)], .int .i64 r.2] w fun e w' =>
    e = .returned (.int .i64 0) ∧ TrieAt w' (t.put r.1.1 r.1.2 r.2) (.pointer (some ⟨b, 0, none⟩)) ∧ Kept (fun x => x = b) w w' :=
  (putT_any _ _ _ w h).mono fun e w' ⟨h1, _, h3⟩ => by
    obtain ⟨h4, h5⟩ := h1 ⟨pfx_al hr, hl⟩
    exact ⟨h4, by simpa using h5, h3⟩
theorem ft_al (r : RZ) : Al (ftZ r) := by
  have h1 := pkZ_lt r.1.2 (n := 33) (by decide)
  have h2 := pkZ_lt r.1.1 (n := 4294967296) (by decide)
  unfold ftZ
  generalize pkZ r.1.2 33 = s at *
  generalize pkZ r.1.1 4294967296 = x at *
  have e : 2 ^ s * 2 ^ (32 - s) = 4294967296 := by rw [← Nat.pow_add, show s + (32 - s) = 32 by omega]
  have hp : 0 < 2 ^ (32 - s) := Nat.pow_pos (by decide)
  refine ⟨show s ≤ 32 by omega, ?_, Nat.mul_mod_left _ _⟩
  have h3 : x / 2 ^ (32 - s) < 2 ^ s := by rw [Nat.div_lt_iff_lt_mul hp, e]; exact h2
  calc x / 2 ^ (32 - s) * 2 ^ (32 - s) + 2 ^ (32 - s) = (x / 2 ^ (32 - s) + 1) * 2 ^ (32 - s) := by rw [Nat.add_mul, Nat.one_mul]
    _ ≤ 2 ^ s * 2 ^ (32 - s) := Nat.mul_le_mul_right _ h3
    _ = 4294967296 := e
theorem ft_lab (r : RZ) : Lab (ftZ r).2 := by
  have := pkZ_lt r.2 (n := 65536) (by decide)
  show 0 ≤ ((pkZ r.2 65536 : Nat) : Int) ∧ ((pkZ r.2 65536 : Nat) : Int) ≤ 65535
  omega
/-- A trie that was put so. -/
structure Good (t : Tr) : Prop where
  nf : t.nf
  dep : t.dep ≤ 32
  labs : t.labs Lab
theorem Good.leaf {l : Int} (h : Lab l) : Good (.leaf l) := ⟨trivial, by simp [Tr.dep], h⟩
theorem Good.put {t : Tr} (h : Good t) {r : Rw} (hr : Al r) (hl : Lab r.2) : Good (t.put r.1.1 r.1.2 r.2) := ⟨put_nf _ _ _ h.nf, put_dep 32 _ _ _ h.dep hr.1, put_labs hl _ _ _ h.labs⟩
theorem Good.putAll {R : List Rw} {t : Tr} (h : Good t) (hR : ∀ r ∈ R, Al r ∧ Lab r.2) : Good (putAll t R) := ⟨putAll_nf R t h.nf, putAll_dep R t (fun r hr => (hR r hr).1.1) h.dep, putAll_labs R t (fun r hr => (hR r hr).2) h.labs⟩
theorem Good.rows {t : Tr} (h : Good t) : ∀ r ∈ t.rows 0 0, Al r ∧ Lab r.2 := fun r hr => ⟨(rows_al t 0 0 (by have := h.dep; omega) (by decide) (by decide) r hr).1, rows_labs t 0 0 h.labs r hr⟩
theorem Good.len {t : Tr} (h : Good t) : (t.rows 0 0).length ≤ 4294967296 := by
  have := rows_length t 0 0 (by have := h.dep; omega)
  simpa using this
end Go.Proofs.Ytnfdjbaafiifnaa
/-
  Two lists of numbers that grow side by side. No condition.
-/
namespace Go.Proofs.Ytnfdjbaafiifnaa
open Go.RowKit Go.Lib

theorem appKept {w w' : World} {base size n : Nat} {e : TypeId} {v v' : Value} {xs : List Value} (h : AppAt w w' v v') (ho : w.ownsRow base e size v n xs) : Kept (fun k => base ≤ k) w w' := by
  rcases h with ⟨g, h1, _, h3⟩ | ⟨h1, _⟩
  · exact (kept_of_grown h3).mono (fun k hk => by have := (World.ownsRow.lt ho k (h1.trans hk)).1; omega)
  · exact Kept.of_below (below_of_grown h1)
theorem app_kept {w w' : World} {v v' : Value} (h : AppAt w w' v v') : ∃ F : Nat → Prop, Kept F w w' ∧ (∀ k, F k → v.ownBlock = some k) := by
  rcases h with ⟨g, a, b, c⟩ | ⟨a, b⟩
  · exact ⟨fun k => some g = some k, kept_of_grown c, fun k hk => a.trans hk⟩
  · exact ⟨fun _ => False, Kept.of_below (below_of_grown a), fun k hk => hk.elim⟩
theorem app_ne {w w' : World} {v v' u : Value} {base n size : Nat} {e : TypeId} {xs : List Value} (h : AppAt w w' v v') (hu : w.ownsRow base e size u n xs) (hvu : ∀ k, v.ownBlock = some k → ¬ u.ownBlock = some k) : ∀ k, v'.ownBlock = some k → ¬ u.ownBlock = some k := by
  intro k hk hk2
  rcases h with ⟨g, a, b, c⟩ | ⟨a, b⟩
  · rw [b] at hk
    exact hvu k (a.trans hk) hk2
  · have := b k hk
    have := (World.ownsRow.lt hu k hk2).2
    omega
theorem below_kept {base : Nat} {a b c : World} (hb : base ≤ a.heap.size) (h : Below base a b) (k : Kept (fun k => base ≤ k) b c) : Below base a c := h.trans (k.below (Nat.le_trans hb h.size) (fun _ h => h))
theorem one_cell (T : TypeId) (w0 : World) (x : Value) : ∀ j u, ([x] : List Value)[j]? = some u → (w0.alloc (.cells #[x] T)).cell? ((⟨w0.heap.size, 0, none⟩ : Addr).add j) = some u := by
  intro j u hu
  match j, hu with
  | 0, hu => simp at hu; subst hu; simp [Addr.add]
def zCells (Z : List Int) : List Value := Z.map fun z => .int .i64 z
structure TbS (W : World) (th bk : Value) (Z Y : List Int) (w : World) : Prop where
  zrow : w.ownsRow W.heap.size 3 1 th Z.length (zCells Z)
  yrow : w.ownsRow W.heap.size 3 1 bk Y.length (zCells Y)
  ne : ∀ x, th.ownBlock = some x → ¬ bk.ownBlock = some x
  below : Below W.heap.size W w
variable {W w w' : World} {th bk : Value} {Z Y : List Int}
theorem TbS.nil (W : World) : TbS W (.slice none 0 0) (.slice none 0 0) [] [] W := ⟨World.ownsRow_nil W _ 3 1, World.ownsRow_nil W _ 3 1, fun x hx => (by cases hx), Below.refl _ _⟩
theorem TbS.next (s : TbS W th bk Z Y w) (x : Below w.heap.size w w') : TbS W th bk Z Y w' := ⟨own_below s.zrow x, own_below s.yrow x, s.ne, s.below.trans (x.mono s.below.size)⟩
theorem TbS.pushZ (s : TbS W th bk Z Y w) {th' : Value} (z : Int) (h1 : w'.ownsRow W.heap.size 3 1 th' (Z.length + 1) (zCells Z ++ [.int .i64 z])) (h2 : AppAt w w' th th') : TbS W th' bk (Z ++ [z]) Y w' := by
  obtain ⟨F, hk, hF⟩ := app_kept h2
  exact ⟨by rw [List.length_append]; simpa [zCells] using h1, own_kept s.yrow hk (fun k h3 h4 => s.ne k (hF k h4) h3), app_ne h2 s.yrow s.ne, below_kept (Nat.le_refl _) s.below (appKept h2 s.zrow)⟩
theorem TbS.pushY (s : TbS W th bk Z Y w) {bk' : Value} (z : Int) (h1 : w'.ownsRow W.heap.size 3 1 bk' (Y.length + 1) (zCells Y ++ [.int .i64 z])) (h2 : AppAt w w' bk bk') : TbS W th bk' Z (Y ++ [z]) w' := by
  obtain ⟨F, hk, hF⟩ := app_kept h2
  exact ⟨own_kept s.zrow hk (fun k h3 h4 => s.ne k h3 (hF k h4)), by rw [List.length_append]; simpa [zCells] using h1, fun k h3 h4 => app_ne h2 s.zrow (fun k h5 h6 => s.ne k h6 h5) k h4 h3, below_kept (Nat.le_refl _) s.below (appKept h2 s.yrow)⟩
theorem own_zat {base : Nat} {v : Value} {Z : List Int} (h : w.ownsRow base 3 1 v Z.length (zCells Z)) : ∃ ao cap, v = .slice ao Z.length cap ∧ ZAt w ao Z := by
  rcases h.2 with ⟨rfl, hn⟩ | ⟨g, cap, cur, rfl, hb, hg, hnc, _⟩
  · exact ⟨none, 0, by rw [hn], .inl (List.eq_nil_of_length_eq_zero hn)⟩
  · refine ⟨_, cap, rfl, .inr ⟨g, 0, rfl, lt_of_block hg, fun i hi => ?_⟩⟩
    rw [Nat.zero_add, World.ownsRow.cellAt h i (by omega)]
    simp [zCells, hi, List.getD_eq_getElem?_getD]
theorem Try.info3 : (Try.prog.info? 3).map (fun i => (i.zero, i.size, i.bytes)) = some (some (.int .i64 0), 1, 8) := by kernel_rfl
/-- The labels turned round, and back. -/
def thL (s n : Nat) : List Int := (List.range n).map fun i => (((i + s) % 65536 : Nat) : Int)
def bkL (s n : Nat) : List Int := (List.range n).map fun i => (((i + 65536 - s) % 65536 : Nat) : Int)
theorem thL_succ (s n : Nat) : thL s (n + 1) = thL s n ++ [(((n + s) % 65536 : Nat) : Int)] := by unfold thL; rw [List.range_succ, List.map_append]; rfl
theorem bkL_succ (s n : Nat) : bkL s (n + 1) = bkL s n ++ [(((n + 65536 - s) % 65536 : Nat) : Int)] := by unfold bkL; rw [List.range_succ, List.map_append]; rfl
theorem thL_length (s n : Nat) : (thL s n).length = n := by simp [thL]
theorem bkL_length (s n : Nat) : (bkL s n).length = n := by simp [bkL]
theorem thL_get {s n : Nat} {l : Int} (h : Lab l) (hn : n = 65536) : trOk (thL s n) l ∧ tr (thL s n) l = (((l.toNat + s) % 65536 : Nat) : Int) := by
  unfold Lab at h
  have h1 : l < ((thL s n).length : Int) := by rw [thL_length]; omega
  have h2 : (thL s n).getD l.toNat 0 = (((l.toNat + s) % 65536 : Nat) : Int) := by
    unfold thL
    rw [List.getD_eq_getElem?_getD, List.getElem?_map, List.getElem?_range (by omega)]
    rfl
  refine ⟨⟨h1, ?_⟩, ?_⟩
  · rw [h2]; unfold Lab; omega
  · unfold tr; rw [if_pos h1, h2]
theorem bkL_get {s n : Nat} {l : Int} (h : Lab l) (hn : n = 65536) : trOk (bkL s n) l ∧ tr (bkL s n) l = (((l.toNat + 65536 - s) % 65536 : Nat) : Int) := by
  unfold Lab at h
  have h1 : l < ((bkL s n).length : Int) := by rw [bkL_length]; omega
  have h2 : (bkL s n).getD l.toNat 0 = (((l.toNat + 65536 - s) % 65536 : Nat) : Int) := by
    unfold bkL
    rw [List.getD_eq_getElem?_getD, List.getElem?_map, List.getElem?_range (by omega)]
    rfl
  refine ⟨⟨h1, ?_⟩, ?_⟩
  · rw [h2]; unfold Lab; omega
  · unfold tr; rw [if_pos h1, h2]
theorem at_labs {p : Int → Prop} : ∀ {t : Tr} (x : Nat), t.labs p → p (t.at x)
  | .leaf _, _, h => h
  | .fork a b, x, h => by
    show p (if 2147483648 ≤ x then b.at (sh x) else a.at (sh x))
    split
    · exact at_labs _ h.2
    · exact at_labs _ h.1
/-- Turned round, and back: the same. -/
theorem turned {t : Tr} (g : Good t) {s n : Nat} (hn : n = 65536) (hs : s < 65536) : t.labs (trOk (thL s n)) ∧ (t.map (tr (thL s n))).labs Lab ∧ (t.map (tr (thL s n))).labs (trOk (bkL s n)) ∧ (t.map (tr (thL s n))).map (tr (bkL s n)) = t := by
  have h1 : (t.map (tr (thL s n))).labs Lab := map_labs (p := Lab) (fun l hl => by rw [(thL_get hl hn).2]; unfold Lab; omega) t g.labs
  refine ⟨labs_mono (fun l hl => (thL_get hl hn).1) g.labs, h1, labs_mono (fun l hl => (bkL_get hl hn).1) h1, ?_⟩
  refine nf_at (map_nf _ _) g.nf (Nat.le_trans (map_dep _ _) (Nat.le_trans (map_dep _ _) g.dep)) g.dep fun x _ => ?_
  have hl := at_labs x g.labs
  have e1 := (thL_get (s := s) hl hn).2
  have hl2 : Lab (tr (thL s n) (t.at x)) := by rw [e1]; unfold Lab; omega
  rw [map_at, map_at, (bkL_get hl2 hn).2, e1]
  unfold Lab at hl
  omega
end Go.Proofs.Ytnfdjbaafiifnaa
