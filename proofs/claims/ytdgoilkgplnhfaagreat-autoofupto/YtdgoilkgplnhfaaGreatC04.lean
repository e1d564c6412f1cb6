/-
  A pattern's text, read: as a function of the bytes that are left. No condition.
-/
import Derived.Lib.Strings
import Derived.Lib.Bytealg
import Derived.Test.YtdgoilkgplnhfaaGreatC03
set_option maxRecDepth 100000
set_option maxHeartbeats 16000000
namespace Go.Proofs.YtdgoilkgplnhfaaGreat
abbrev By := List UInt8
def tkL (least : Nat) : By → Except By (UInt8 × By)
 | [] => .error []
 | c :: t => if least ≤ c.toNat ∧ c.toNat ≤ 126 then .ok (c, t) else .error (c :: t)
def mbL (least : Nat) (r : By) : Except By (UInt8 × By) :=
 if [92].isPrefixOf r then tkL least (r.drop 1) else if [93].isPrefixOf r || [45].isPrefixOf r then .error r else tkL least r
def itL (r : By) : Except By (Spn × By) := match mbL 32 r with
 | .error t => .error t
 | .ok (lo, t) => if [45].isPrefixOf t then (match mbL lo.toNat (t.drop 1) with
   | .error u => .error u
   | .ok (hi, u) => .ok ((((lo.toNat : Nat) : Int), ((hi.toNat : Nat) : Int)), u)) else .ok ((((lo.toNat : Nat) : Int), ((lo.toNat : Nat) : Int)), t)
def itsL : Nat → By → List Spn → Except By (List Spn × By)
 | 0, r, _ => .error r
 | n + 1, r, A => if !A.isEmpty && [93].isPrefixOf r then .ok (A, r.drop 1) else match itL r with
   | .error t => .error t
   | .ok (s, t) => itsL n t (A ++ [s])
structure Pc where
 kind : Int
 b : Int
 no : Bool
 set : List Spn
def insS (s : Spn) : List Spn → List Spn
 | [] => [s]
 | t :: L => if s.1 ≤ t.1 then s :: t :: L else t :: insS s L
def srtS : List Spn → List Spn
 | [] => []
 | s :: L => insS s (srtS L)
theorem insS_perm (s : Spn) : ∀ L, (insS s L).Perm (s :: L)
 | [] => List.Perm.refl _
 | t :: L => by
   unfold insS
   split
   · exact List.Perm.refl _
   · exact ((insS_perm s L).cons t).trans (List.Perm.swap s t L)
theorem srtS_perm : ∀ L, (srtS L).Perm L
 | [] => List.Perm.refl _
 | s :: L => (insS_perm s _).trans ((srtS_perm L).cons s)
theorem insS_sorted (s : Spn) : ∀ L : List Spn, L.Pairwise (fun s t => s.1 ≤ t.1) → (insS s L).Pairwise (fun s t => s.1 ≤ t.1)
 | [], _ => List.pairwise_singleton _ _
 | t :: L, h => by
   unfold insS
   split
   · rename_i hs
     refine List.pairwise_cons.2 ⟨fun x hx => ?_, h⟩
     rcases List.mem_cons.1 hx with rfl | hx
     · exact hs
     · exact Int.le_trans hs ((List.pairwise_cons.1 h).1 x hx)
   · rename_i hs
     refine List.pairwise_cons.2 ⟨fun x hx => ?_, insS_sorted s L (List.pairwise_cons.1 h).2⟩
     rcases List.mem_cons.1 ((insS_perm s L).mem_iff.1 hx) with rfl | hx
     · omega
     · exact (List.pairwise_cons.1 h).1 x hx
theorem srtS_sorted : ∀ L : List Spn, (srtS L).Pairwise (fun s t => s.1 ≤ t.1)
 | [] => List.Pairwise.nil
 | s :: L => insS_sorted s _ (srtS_sorted L)
def setOf (A : List Spn) : List Spn := joinAll (srtS A)
theorem memB_perm {L M : List Spn} (h : L.Perm M) (n : Int) : memB n L = memB n M := by
 rw [Bool.eq_iff_iff, memB_iff, memB_iff]
 exact ⟨fun ⟨s, hs, h1⟩ => ⟨s, h.mem_iff.1 hs, h1⟩, fun ⟨s, hs, h1⟩ => ⟨s, h.mem_iff.2 hs, h1⟩⟩
theorem setOf_spec {A : List Spn} (hb : ∀ s ∈ A, Bnd s) : IsSet (setOf A) ∧ ∀ n, memB n (setOf A) = memB n A := by
 have h := joinAll_spec _ (srtS A) rfl (fun s hs => hb s ((srtS_perm A).mem_iff.1 hs)) (srtS_sorted A)
 exact ⟨h.1, fun n => (h.2.1 n).trans (memB_perm (srtS_perm A) n)⟩
theorem setOf_eq {A M : List Spn} (hb : ∀ s ∈ A, Bnd s) (h1 : IsSet M) (h2 : ∀ n, memB n M = memB n A) : setOf A = M :=
 IsSet.unique (setOf_spec hb).1 h1 (fun n => by rw [(setOf_spec hb).2, h2])
def stL (r : By) : Except By (Pc × By) :=
 let no := [33].isPrefixOf r
 let r1 := if no then r.drop 1 else r
 match itsL (r1.length + 1) r1 [] with
 | .error t => .error t
 | .ok (A, t) => .ok (⟨3, 0, no, setOf A⟩, t)
def pcL (r : By) : Except By (Pc × By) :=
 if [42, 42].isPrefixOf r then .ok (⟨5, 0, false, []⟩, r.drop 2)
 else if [42].isPrefixOf r then .ok (⟨4, 0, false, []⟩, r.drop 1)
 else if [63].isPrefixOf r then .ok (⟨2, 0, false, []⟩, r.drop 1)
 else if [91].isPrefixOf r then stL (r.drop 1)
 else match tkL 32 (if [92].isPrefixOf r then r.drop 1 else r) with
  | .error t => .error t
  | .ok (c, t) => .ok (⟨1, ((c.toNat : Nat) : Int), false, []⟩, t)
def psL : Nat → By → List Pc → Except By (List Pc)
 | 0, r, _ => .error r
 | n + 1, r, A => if r = [] then .ok A else if A.length = 64 then .error r else match pcL r with
   | .error t => .error t
   | .ok (p, t) => psL n t (A ++ [p])
def parL (s : By) : Except By (List Pc) := psL (s.length + 1) s []
theorem drop_lt {r : By} {q : By} (h : q.isPrefixOf r = true) (hq : 0 < q.length) : (r.drop q.length).length < r.length ∧ (r.drop q.length) <:+ r := by
 obtain ⟨t, rfl⟩ := List.isPrefixOf_iff_prefix.1 h
 simp
 omega
theorem drop1 {r : By} {c : UInt8} (h : [c].isPrefixOf r = true) : (r.drop 1).length < r.length ∧ (r.drop 1) <:+ r := drop_lt h (by simp)
theorem tkL_ok {least : Nat} {r t : By} {c : UInt8} (h : tkL least r = .ok (c, t)) : r = c :: t ∧ least ≤ c.toNat ∧ c.toNat ≤ 126 := by
 cases r with
 | nil => cases h
 | cons d r =>
   rw [show tkL least (d :: r) = if least ≤ d.toNat ∧ d.toNat ≤ 126 then .ok (d, r) else .error (d :: r) from rfl] at h
   split at h
   · injection h with h; injection h with h1 h2; subst h1 h2; rename_i h; exact ⟨rfl, h⟩
   · cases h
theorem mbL_ok {least : Nat} {r t : By} {c : UInt8} (h : mbL least r = .ok (c, t)) : t.length < r.length ∧ t <:+ r ∧ least ≤ c.toNat ∧ c.toNat ≤ 126 := by
 unfold mbL at h
 split at h
 · rename_i h1
   obtain ⟨h2, h3⟩ := drop1 h1
   obtain ⟨h4, h5, h6⟩ := tkL_ok h
   rw [h4] at h2 h3
   exact ⟨by simp at h2; omega, (List.suffix_cons c t).trans h3, h5, h6⟩
 · split at h
   · cases h
   · obtain ⟨h4, h5, h6⟩ := tkL_ok h
     subst h4
     exact ⟨by simp, List.suffix_cons c t, h5, h6⟩
theorem itL_ok {r t : By} {s : Spn} (h : itL r = .ok (s, t)) : t.length < r.length ∧ t <:+ r ∧ 32 ≤ s.1 ∧ s.1 ≤ s.2 ∧ s.2 ≤ 126 := by
 unfold itL at h
 split at h
 · cases h
 · rename_i lo t1 h1
   obtain ⟨a1, a2, a3, a4⟩ := mbL_ok h1
   split at h
   · rename_i h2
     obtain ⟨b1, b2⟩ := drop1 h2
     split at h
     · cases h
     · rename_i hi u h3
       obtain ⟨c1, c2, c3, c4⟩ := mbL_ok h3
       injection h with h; injection h with e1 e2; subst e1 e2
       exact ⟨by omega, c2.trans (b2.trans a2), by simp; omega, by simp; omega, by simp; omega⟩
   · injection h with h; injection h with e1 e2; subst e1 e2
     exact ⟨a1, a2, by simp; omega, by simp, by simp; omega⟩
def InB (s : Spn) : Prop := 32 ≤ s.1 ∧ s.1 ≤ s.2 ∧ s.2 ≤ 126
theorem itsL_ok : ∀ {n : Nat} {r t : By} {A B : List Spn}, itsL n r A = .ok (B, t) → (∀ s ∈ A, InB s) → t.length < r.length ∧ t <:+ r ∧ B ≠ [] ∧ ∀ s ∈ B, InB s
 | 0, r, t, A, B, h, _ => by cases h
 | n + 1, r, t, A, B, h, hA => by
   unfold itsL at h
   split at h
   · rename_i hb
     injection h with h; injection h with h1 h2; subst h1 h2
     simp only [Bool.and_eq_true, Bool.not_eq_true', List.isEmpty_eq_false_iff] at hb
     obtain ⟨d1, d2⟩ := drop1 hb.2
     exact ⟨d1, d2, hb.1, hA⟩
   · split at h
     · cases h
     · rename_i s t1 hi
       obtain ⟨a1, a2, a3, a4, a5⟩ := itL_ok hi
       obtain ⟨b1, b2, b3, b4⟩ := itsL_ok h (fun x hx => by
        rcases List.mem_append.1 hx with hx | hx
        · exact hA x hx
        · rw [List.mem_singleton.1 hx]; exact ⟨a3, a4, a5⟩)
       exact ⟨by omega, b2.trans a2, b3, b4⟩
def Rp (p : Pc) : Prop := (p.kind = 1 ∧ 32 ≤ p.b ∧ p.b ≤ 126 ∧ p.no = false ∧ p.set = []) ∨ ((p.kind = 2 ∨ p.kind = 4 ∨ p.kind = 5) ∧ p.b = 0 ∧ p.no = false ∧ p.set = []) ∨ (p.kind = 3 ∧ p.b = 0 ∧ IsSet p.set ∧ p.set ≠ [] ∧ ∀ s ∈ p.set, 32 ≤ s.1 ∧ s.2 ≤ 126)
theorem InB.bnd {s : Spn} (h : InB s) : Bnd s := by
 unfold InB at h
 unfold Bnd
 omega
theorem setOf_in {A : List Spn} (hA : ∀ s ∈ A, InB s) (hne : A ≠ []) : IsSet (setOf A) ∧ setOf A ≠ [] ∧ ∀ s ∈ setOf A, 32 ≤ s.1 ∧ s.2 ≤ 126 := by
 obtain ⟨h1, h2⟩ := setOf_spec (fun s hs => (hA s hs).bnd)
 refine ⟨h1, fun h => ?_, fun s hs => ?_⟩
 · cases A with
   | nil => exact hne rfl
   | cons x A =>
     have h3 := h2 x.1
     rw [h, memB_nil, memB_cons] at h3
     have := hA x (by simp)
     unfold InB at this
     simp [this.2.1] at h3
 · have hb := h1.1 s hs
   unfold Bnd at hb
   have e1 : memB s.1 A = true := by rw [← h2]; exact (memB_iff _ _).2 ⟨s, hs, Int.le_refl _, hb.2.1⟩
   have e2 : memB s.2 A = true := by rw [← h2]; exact (memB_iff _ _).2 ⟨s, hs, hb.2.1, Int.le_refl _⟩
   obtain ⟨x, hx, a1, a2⟩ := (memB_iff _ _).1 e1
   obtain ⟨y, hy, b1, b2⟩ := (memB_iff _ _).1 e2
   have hx' := hA x hx
   have hy' := hA y hy
   unfold InB at hx' hy'
   omega
theorem stL_ok {r t : By} {p : Pc} (h : stL r = .ok (p, t)) : t.length < r.length ∧ t <:+ r ∧ Rp p ∧ p.kind = 3 := by
 unfold stL at h
 simp only at h
 split at h
 · cases h
 · rename_i A t1 hi
   injection h with h; injection h with h1 h2; subst h1 h2
   obtain ⟨a1, a2, a3, a4⟩ := itsL_ok hi (fun s hs => by cases hs)
   obtain ⟨b1, b2, b3⟩ := setOf_in a4 a3
   have hr : (if [33].isPrefixOf r = true then r.drop 1 else r).length ≤ r.length ∧ (if [33].isPrefixOf r = true then r.drop 1 else r) <:+ r := by
    split
    · rename_i hb; exact ⟨Nat.le_of_lt (drop1 hb).1, (drop1 hb).2⟩
    · exact ⟨Nat.le_refl _, List.suffix_refl _⟩
   exact ⟨by omega, a2.trans hr.2, .inr (.inr ⟨rfl, rfl, b1, b2, b3⟩), rfl⟩
theorem pcL_ok {r t : By} {p : Pc} (h : pcL r = .ok (p, t)) : t.length < r.length ∧ t <:+ r ∧ Rp p := by
 unfold pcL at h
 split at h
 · rename_i hb; injection h with h; injection h with h1 h2; subst h1 h2; exact ⟨(drop_lt hb (by decide)).1, (drop_lt hb (by decide)).2, .inr (.inl ⟨.inr (.inr rfl), rfl, rfl, rfl⟩)⟩
 · split at h
   · rename_i hb; injection h with h; injection h with h1 h2; subst h1 h2; exact ⟨(drop1 hb).1, (drop1 hb).2, .inr (.inl ⟨.inr (.inl rfl), rfl, rfl, rfl⟩)⟩
   · split at h
     · rename_i hb; injection h with h; injection h with h1 h2; subst h1 h2; exact ⟨(drop1 hb).1, (drop1 hb).2, .inr (.inl ⟨.inl rfl, rfl, rfl, rfl⟩)⟩
     · split at h
       · rename_i hb
         obtain ⟨a1, a2, a3, _⟩ := stL_ok h
         exact ⟨Nat.lt_trans a1 (drop1 hb).1, a2.trans (drop1 hb).2, a3⟩
       · split at h
         · cases h
         · rename_i c t1 hi
           injection h with h; injection h with h1 h2; subst h1 h2
           obtain ⟨a1, a2, a3⟩ := tkL_ok hi
           have hr : (if [92].isPrefixOf r = true then r.drop 1 else r).length ≤ r.length ∧ (if [92].isPrefixOf r = true then r.drop 1 else r) <:+ r := by
            split
            · rename_i hb; exact ⟨Nat.le_of_lt (drop1 hb).1, (drop1 hb).2⟩
            · exact ⟨Nat.le_refl _, List.suffix_refl _⟩
           rw [a1] at hr
           exact ⟨by have := hr.1; simp at this; omega, (List.suffix_cons c t1).trans hr.2, .inl ⟨rfl, by simp; omega, by simp; omega, rfl, rfl⟩⟩
end Go.Proofs.YtdgoilkgplnhfaaGreat
namespace Go.Proofs.YtdgoilkgplnhfaaGreat
open Go.RowKit Go.Lib
theorem bt {N : Nat} {a b c : World} (h : Below N a b) (k : Below b.heap.size b c) (hN : N ≤ a.heap.size) : Below N a c := h.trans (k.mono (Nat.le_trans hN h.size))
theorem al {w w' : World} (h : Below w.heap.size w w') (o : Obj) : Below w.heap.size w (w'.alloc o) := h.alloc h.size o
theorem block_setCell {w : World} {b : Nat} {cs : Array Value} {t : TypeId} {fr : Nat × Nat} (h : w.heap[b]? = some (.cells cs t fr)) (j : Nat) (u : Value) : (w.setCell ⟨b, j, none⟩ u).heap[b]? = some (.cells (cs.set! j u) t fr) := by
 have hlt := lt_of_block h
 have h' : w.heap[b] = .cells cs t fr := by simpa [Array.getElem?_eq_getElem hlt] using h
 show (w.heap.modify b _)[b]? = _
 rw [Array.getElem?_eq_getElem (by simpa using hlt), Array.getElem_modify_self, h']
 rfl
theorem st2 {W : World} {g : Nat} {a b : Value} {T : TypeId} (B : W.heap[g]? = some (.cells #[a, b] T (0, 0))) (x y : Value) :
 W.cell? ⟨g, 0, none⟩ = some a ∧ W.frozen? ⟨g, 0, none⟩ = false ∧ (W.setCell ⟨g, 0, none⟩ x).cell? ⟨g, 1, none⟩ = some b ∧ (W.setCell ⟨g, 0, none⟩ x).frozen? ⟨g, 1, none⟩ = false ∧ ((W.setCell ⟨g, 0, none⟩ x).setCell ⟨g, 1, none⟩ y).cell? ⟨g, 0, none⟩ = some x ∧ ((W.setCell ⟨g, 0, none⟩ x).setCell ⟨g, 1, none⟩ y).cell? ⟨g, 1, none⟩ = some y ∧ Kept (fun k => k = g) W ((W.setCell ⟨g, 0, none⟩ x).setCell ⟨g, 1, none⟩ y) := by
 have B1 : (W.setCell ⟨g, 0, none⟩ x).heap[g]? = some (.cells #[x, b] T (0, 0)) := block_setCell B 0 x
 have B2 : ((W.setCell ⟨g, 0, none⟩ x).setCell ⟨g, 1, none⟩ y).heap[g]? = some (.cells #[x, y] T (0, 0)) := block_setCell B1 1 y
 refine ⟨?_, frozen_of_row _ _ _ _ _ B, ?_, frozen_of_row _ _ _ _ _ B1, ?_, ?_, Kept.setCell (F := fun k => k = g) (p := ⟨g, 1, none⟩) (Kept.setCell (F := fun k => k = g) (p := ⟨g, 0, none⟩) (Kept.refl _ _) rfl _) rfl _⟩
 · rw [cell_of_row _ _ _ _ _ _ B]; rfl
 · rw [cell_of_row _ _ _ _ _ _ B1]; rfl
 · rw [cell_of_row _ _ _ _ _ _ B2]; rfl
 · rw [cell_of_row _ _ _ _ _ _ B2]; rfl
theorem st4 {W : World} {g : Nat} {a b c d : Value} {T : TypeId} (B : W.heap[g]? = some (.cells #[a, b, c, d] T (0, 0))) (x y z u : Value) :
 W.cell? ⟨g, 0, none⟩ = some a ∧ W.frozen? ⟨g, 0, none⟩ = false ∧ (W.setCell ⟨g, 0, none⟩ x).cell? ⟨g, 1, none⟩ = some b ∧ (W.setCell ⟨g, 0, none⟩ x).frozen? ⟨g, 1, none⟩ = false ∧
 ((W.setCell ⟨g, 0, none⟩ x).setCell ⟨g, 1, none⟩ y).cell? ⟨g, 2, none⟩ = some c ∧ ((W.setCell ⟨g, 0, none⟩ x).setCell ⟨g, 1, none⟩ y).frozen? ⟨g, 2, none⟩ = false ∧
 (((W.setCell ⟨g, 0, none⟩ x).setCell ⟨g, 1, none⟩ y).setCell ⟨g, 2, none⟩ z).cell? ⟨g, 3, none⟩ = some d ∧ (((W.setCell ⟨g, 0, none⟩ x).setCell ⟨g, 1, none⟩ y).setCell ⟨g, 2, none⟩ z).frozen? ⟨g, 3, none⟩ = false ∧
 ((((W.setCell ⟨g, 0, none⟩ x).setCell ⟨g, 1, none⟩ y).setCell ⟨g, 2, none⟩ z).setCell ⟨g, 3, none⟩ u).heap[g]? = some (.cells #[x, y, z, u] T (0, 0)) ∧ Kept (fun k => k = g) W ((((W.setCell ⟨g, 0, none⟩ x).setCell ⟨g, 1, none⟩ y).setCell ⟨g, 2, none⟩ z).setCell ⟨g, 3, none⟩ u) := by
 have B1 : (W.setCell ⟨g, 0, none⟩ x).heap[g]? = some (.cells #[x, b, c, d] T (0, 0)) := block_setCell B 0 x
 have B2 : ((W.setCell ⟨g, 0, none⟩ x).setCell ⟨g, 1, none⟩ y).heap[g]? = some (.cells #[x, y, c, d] T (0, 0)) := block_setCell B1 1 y
 have B3 : (((W.setCell ⟨g, 0, none⟩ x).setCell ⟨g, 1, none⟩ y).setCell ⟨g, 2, none⟩ z).heap[g]? = some (.cells #[x, y, z, d] T (0, 0)) := block_setCell B2 2 z
 have B4 : ((((W.setCell ⟨g, 0, none⟩ x).setCell ⟨g, 1, none⟩ y).setCell ⟨g, 2, none⟩ z).setCell ⟨g, 3, none⟩ u).heap[g]? = some (.cells #[x, y, z, u] T (0, 0)) := block_setCell B3 3 u
 refine ⟨?_, frozen_of_row _ _ _ _ _ B, ?_, frozen_of_row _ _ _ _ _ B1, ?_, frozen_of_row _ _ _ _ _ B2, ?_, frozen_of_row _ _ _ _ _ B3, B4, Kept.setCell (F := fun k => k = g) (p := ⟨g, 3, none⟩) (Kept.setCell (F := fun k => k = g) (p := ⟨g, 2, none⟩) (Kept.setCell (F := fun k => k = g) (p := ⟨g, 1, none⟩) (Kept.setCell (F := fun k => k = g) (p := ⟨g, 0, none⟩) (Kept.refl _ _) rfl _) rfl _) rfl _) rfl _⟩
 · rw [cell_of_row _ _ _ _ _ _ B]; rfl
 · rw [cell_of_row _ _ _ _ _ _ B1]; rfl
 · rw [cell_of_row _ _ _ _ _ _ B2]; rfl
 · rw [cell_of_row _ _ _ _ _ _ B3]; rfl
def sv (l : By) : Value := .string ⟨l.toArray⟩
theorem hasPre_any (s p : By) (w : World) : Calls Tryz.prog 124 #[.string ⟨s.toArray⟩, .string ⟨p.toArray⟩] w fun e w' => e = .returned (.bool (p.isPrefixOf s)) ∧ w' = w := by
 have hr := Lib.hasPrefix_raw ⟨s.toArray⟩ ⟨p.toArray⟩
 unfold Lib.hasPrefix at hr
 simp only at hr
 rw [← hr]
 clear hr
 go_enter Tryz.func124, Tryz.ntmps124
 go_wp2
 · rename_i h
   go_ret
   have h' : (⟨p.toArray⟩ : ByteArray).size ≤ (⟨s.toArray⟩ : ByteArray).size := h
   rw [decide_eq_true h', Bool.true_and]
   exact ⟨congrArg (fun b => Ending.returned (Value.bool b)) (by rw [Lib.toList_data ⟨p.toArray⟩]; rfl), rfl⟩
 · rename_i h
   go_ret
   have h' : ¬ (⟨p.toArray⟩ : ByteArray).size ≤ (⟨s.toArray⟩ : ByteArray).size := h
   rw [decide_eq_false h', Bool.false_and]
   exact ⟨rfl, rfl⟩
theorem idxByte_any (s : By) (c : Int) (w : World) : Calls Tryz.prog 100 #[.string ⟨s.toArray⟩, .int .u8 c] w fun e w' => e = .returned (.int .i64 (Lib.indexByte s c.toNat.toUInt8)) ∧ w' = w := by
 have H : Calls Tryz.prog 130 #[.string ⟨s.toArray⟩, .int .u8 c] w fun e w' => e = .returned (.int .i64 (Lib.indexByte s c.toNat.toUInt8)) ∧ w' = w := by
  go_enter Tryz.func130, Tryz.ntmps130
  go_wp2
  rw [run_callFunc_extern Tryz.func161 (by kernel_rfl) (by kernel_rfl) (by kernel_rfl) (e := Extern.BytealgIndexByte.indexByte) (by kernel_rfl), Lib.run_indexByteString]
  simp only [Result.andThen]
  rw [Oper.upon_value]
  go_wp2
  go_ret
  exact ⟨rfl, rfl⟩
 go_enter Tryz.func100, Tryz.ntmps100
 go_wp2_with (go_at_call 130; refine H.mono ?_; rintro e w2 ⟨rfl, hw2⟩; subst hw2)
 go_ret
 exact ⟨rfl, rfl⟩
def RdAt (w : World) (rb : Nat) (p r : By) : Prop := w.heap[rb]? = some (.cells #[.string ⟨(p ++ r).toArray⟩, .int .i64 (p.length : Nat)] 93 (0, 0))
theorem RdAt.below {w w' : World} {rb : Nat} {p r : By} (h : RdAt w rb p r) (x : Below w.heap.size w w') : RdAt w' rb p r := (x.block rb (lt_of_block h)).trans h
theorem RdAt.kept {F : Nat → Prop} {w w' : World} {rb : Nat} {p r : By} (h : RdAt w rb p r) (x : Kept F w w') (hF : ¬ F rb) : RdAt w' rb p r := (x.block rb (lt_of_block h) hF).trans h
theorem RdAt.c0 {w : World} {rb : Nat} {p r : By} (h : RdAt w rb p r) : w.cell? ⟨rb, 0, none⟩ = some (.string ⟨(p ++ r).toArray⟩) := by rw [cell_of_row w rb 0 _ _ _ h]; rfl
theorem RdAt.c1 {w : World} {rb : Nat} {p r : By} (h : RdAt w rb p r) : w.cell? ⟨rb, 1, none⟩ = some (.int .i64 (p.length : Nat)) := by rw [cell_of_row w rb 1 _ _ _ h]; rfl
theorem ext_r (p r : By) : (⟨(p ++ r).toArray⟩ : ByteArray).extract p.length (p.length + r.length) = ⟨r.toArray⟩ := by
 apply ByteArray.ext
 simp
theorem skip_any (rb : Nat) (p q r : By) (w : World) (hl : (p ++ r).length ≤ 140737488351232) (hq : q.length ≤ 8) (h : RdAt w rb p r) :
 Calls Tryz.prog 91 #[.pointer (some ⟨rb, 0, none⟩), .string ⟨q.toArray⟩] w fun e w' => e = .returned (.bool (q.isPrefixOf r)) ∧ (q.isPrefixOf r = true → RdAt w' rb (p ++ q) (r.drop q.length)) ∧ (q.isPrefixOf r = false → RdAt w' rb p r) ∧ Kept (fun k => k = rb) w w' := by
 have c0 := h.c0
 have c1 := h.c1
 have f1 := frozen_of_row w rb 1 _ _ h
 have hb := lt_of_block h
 have HH := hide h
 have e1 := ext_r p r
 rw [← List.length_append] at e1
 have z1 : (p.length : Int) ≤ ((p ++ r).length : Int) := by rw [List.length_append]; omega
 have HP := hide (fun w => hasPre_any r q w)
 have w1 : IntKind.i64.wrap ((p.length : Int) + (q.length : Int)) = (p.length : Int) + (q.length : Int) := by rw [List.length_append] at hl; simp [IntKind.wrap, IntKind.bits, IntKind.signed]; omega
 clear h
 obtain ⟨s, HS⟩ : ∃ s, Hid (s = p ++ r) := ⟨_, rfl⟩
 rw [← HS.out] at c0 e1 z1 hl
 cases hpq : q.isPrefixOf r with
 | true =>
   rw [hpq] at HP
   have HR : Hid (q ++ r.drop q.length = r) := by
    obtain ⟨r', rfl⟩ := List.isPrefixOf_iff_prefix.1 hpq
    simp [Hid]
   clear hpq
   go_enter Tryz.func91, Tryz.ntmps91
   go_wp2
   go_region_held3 (fun w' => w'.cell? ⟨rb, 0, none⟩ = some (.string ⟨s.toArray⟩) ∧ w'.cell? ⟨rb, 1, none⟩ = some (.int .i64 (p.length : Nat))) (first | assumption | (simp [go_sem, *]; done))
    (first | (go_at_call 124; refine (HP.out _).mono ?_; rintro e w2 ⟨rfl, hw2⟩; subst hw2))
   go_wp2
   go_ret
   refine ⟨rfl, fun _ => ?_, fun h => (by cases h), by refine Kept.drew (Kept.setCell (F := fun k => k = rb) (a := w) (p := ⟨rb, 1, none⟩) ?_ rfl _); exact ⟨rfl, rfl, rfl, Nat.le_refl _, fun _ _ _ => rfl⟩⟩
   refine (block_setCell (cs := #[.string ⟨(p ++ r).toArray⟩, .int .i64 (p.length : Nat)]) HH.out 1 _).trans ?_
   rw [List.append_assoc, HR.out, List.length_append, Int.natCast_add]
   rfl
 | false =>
   rw [hpq] at HP
   clear hpq
   go_enter Tryz.func91, Tryz.ntmps91
   go_wp2
   go_region_held3 (fun w' => w'.cell? ⟨rb, 0, none⟩ = some (.string ⟨s.toArray⟩) ∧ w'.cell? ⟨rb, 1, none⟩ = some (.int .i64 (p.length : Nat))) (first | assumption | (simp [go_sem, *]; done))
    (first | (go_at_call 124; refine (HP.out _).mono ?_; rintro e w2 ⟨rfl, hw2⟩; subst hw2))
   go_wp2
   go_ret
   exact ⟨rfl, fun h => (by cases h), fun _ => HH.out, ⟨rfl, rfl, rfl, Nat.le_refl _, fun _ _ _ => rfl⟩⟩
theorem idx_str (l : By) (k : Nat) (hk : k < l.length) : ((⟨l.toArray⟩ : ByteArray)[k]'hk) = l[k] := by rfl
theorem take_end (rb : Nat) (p : By) (least : Int) (w : World) (h : RdAt w rb p []) :
 Calls Tryz.prog 93 #[.pointer (some ⟨rb, 0, none⟩), .int .i64 least] w fun e w' => e = .returned (.tuple #[.int .i64 0, .bool false]) ∧ RdAt w' rb p [] ∧ Kept (fun k => k = rb) w w' := by
 have c0 := h.c0
 have c1 := h.c1
 rw [List.append_nil] at c0
 have HH := hide h
 clear h
 go_enter Tryz.func93, Tryz.ntmps93
 go_wp2
 go_quiet (fail)
 go_wp2
 go_ret2
 exact ⟨rfl, HH.out, ⟨rfl, rfl, rfl, Nat.le_refl _, fun _ _ _ => rfl⟩⟩
theorem take_any (rb : Nat) (p r : By) (c : UInt8) (least : Int) (w : World) (hl : (p ++ c :: r).length ≤ 140737488351232) (h : RdAt w rb p (c :: r)) :
 Calls Tryz.prog 93 #[.pointer (some ⟨rb, 0, none⟩), .int .i64 least] w fun e w' => ((least ≤ (c.toNat : Int) ∧ c.toNat ≤ 126 ∧ e = .returned (.tuple #[.int .i64 (c.toNat : Nat), .bool true]) ∧ RdAt w' rb (p ++ [c]) r) ∨ (¬ (least ≤ (c.toNat : Int) ∧ c.toNat ≤ 126) ∧ e = .returned (.tuple #[.int .i64 0, .bool false]) ∧ RdAt w' rb p (c :: r))) ∧ Kept (fun k => k = rb) w w' := by
 have c0 := h.c0
 have c1 := h.c1
 have f1 := frozen_of_row w rb 1 _ _ h
 have HH := hide h
 have hpl : p.length < (p ++ c :: r).length := by rw [List.length_append, List.length_cons]; omega
 have z1 : (p.length : Int) < ((p ++ c :: r).length : Int) := by omega
 have z2 : ¬ (p.length : Int) = ((p ++ c :: r).length : Int) := by omega
 have hg : (⟨(p ++ c :: r).toArray⟩ : ByteArray)[p.length]'hpl = c := by rw [idx_str]; simp
 have w1 : IntKind.i64.wrap ((p.length : Int) + 1) = (p.length : Int) + 1 := by simp [IntKind.wrap, IntKind.bits, IntKind.signed]; omega
 have w2 : IntKind.i64.wrap (c.toNat : Int) = (c.toNat : Int) := by have := c.toNat_lt; simp [IntKind.wrap, IntKind.bits, IntKind.signed]; omega
 clear h
 obtain ⟨s, HS⟩ : ∃ s, Hid (s = p ++ c :: r) := ⟨_, rfl⟩
 have hg' : ∀ hk, (⟨s.toArray⟩ : ByteArray)[p.length]'hk = c := by rw [HS.out]; exact fun _ => hg
 clear hg
 rw [← HS.out] at c0 z1 z2 hl hpl
 by_cases h1 : (c.toNat : Int) < least
 · go_enter Tryz.func93, Tryz.ntmps93
   go_wp2
   go_quiet (fail)
   go_wp2
   go_quiet (fail)
   go_wp2
   go_ret2
   exact ⟨.inr ⟨fun h => (by omega), rfl, HH.out⟩, ⟨rfl, rfl, rfl, Nat.le_refl _, fun _ _ _ => rfl⟩⟩
 · by_cases h2 : (126 : Int) < (c.toNat : Int)
   · go_enter Tryz.func93, Tryz.ntmps93
     go_wp2
     go_quiet (fail)
     go_wp2
     go_quiet (fail)
     go_wp2
     go_ret2
     exact ⟨.inr ⟨fun h => (by omega), rfl, HH.out⟩, ⟨rfl, rfl, rfl, Nat.le_refl _, fun _ _ _ => rfl⟩⟩
   · go_enter Tryz.func93, Tryz.ntmps93
     go_wp2
     go_quiet (fail)
     go_wp2
     go_quiet (fail)
     go_wp2
     go_ret2
     refine ⟨.inl ⟨by omega, by omega, rfl, ?_⟩, by refine Kept.setCell (F := fun k => k = rb) (a := w) (p := ⟨rb, 1, none⟩) ?_ rfl _; exact ⟨rfl, rfl, rfl, Nat.le_refl _, fun _ _ _ => rfl⟩⟩
     refine (block_setCell (cs := #[.string ⟨(p ++ c :: r).toArray⟩, .int .i64 (p.length : Nat)]) HH.out 1 _).trans ?_
     rw [List.append_assoc, List.length_append, Int.natCast_add]
     rfl
def NAt (w : World) (ao : Option Addr) (L : List Nat) : Prop := L = [] ∨ ∃ b off, ao = some ⟨b, off, none⟩ ∧ b < w.heap.size ∧ ∀ i (h : i < L.length), w.cell? ⟨b, off + i, none⟩ = some (.int .i64 (L[i] : Int))
theorem NAt.below {w w' : World} {ao : Option Addr} {L : List Nat} (h : NAt w ao L) (hb : Below w.heap.size w w') : NAt w' ao L := by
 rcases h with h | ⟨b, off, h1, h2, h3⟩
 · exact .inl h
 · exact .inr ⟨b, off, h1, Nat.lt_of_lt_of_le h2 hb.size, fun i hi => (hb.cell (p := ⟨b, off + i, none⟩) h2).trans (h3 i hi)⟩
theorem NAt.get {w : World} {ao : Option Addr} {L : List Nat} (h : NAt w ao L) {i : Nat} (hi : i < L.length) : ∃ b off, ao = some ⟨b, off, none⟩ ∧ b < w.heap.size ∧ w.cell? ⟨b, off + i, none⟩ = some (.int .i64 (L[i] : Int)) := by
 rcases h with h | ⟨b, off, h1, h2, h3⟩
 · rw [h] at hi; cases hi
 · exact ⟨b, off, h1, h2, h3 i hi⟩
theorem OwnN.at {w : World} {base : Nat} {v : Value} {L : List Nat} (h : OwnN w base v L) : ∃ ao cap, v = .slice ao L.length cap ∧ NAt w ao L := by
 have hh : w.ownsRow base 3 1 v L.length (nCells L) := h
 rcases hh.2 with ⟨rfl, hn⟩ | ⟨g, cap, cur, rfl, hb, hg, r⟩
 · exact ⟨none, 0, by rw [hn], .inl (List.eq_nil_of_length_eq_zero hn)⟩
 · refine ⟨_, cap, rfl, .inr ⟨g, 0, rfl, lt_of_block hg, fun i hi => ?_⟩⟩
   have := h.cell hi
   simpa using this
def auV (bs : By) (na : Option Addr) (nl nc : Nat) (oa : Option Addr) (ol oc : Nat) : Value := .agg #[.string ⟨bs.toArray⟩, .slice na nl nc, .slice oa ol oc]
theorem width_any (bs : By) (na oa : Option Addr) (nl nc ol oc : Nat) (w : World) (hn : nl ≤ 140737488351232) (ho : 0 < ol) :
 Calls Tryz.prog 94 #[auV bs na nl nc oa ol oc] w fun e w' => e = .returned (.int .i64 ((nl / ol : Nat) : Int)) ∧ Below w.heap.size w w' := by
 have hq : (nl : Int).tdiv (ol : Int) = ((nl / ol : Nat) : Int) := by rw [Int.tdiv_eq_ediv_of_nonneg (by omega)]; rfl
 have hle : nl / ol ≤ nl := Nat.div_le_self _ _
 generalize nl / ol = m at *
 have hw : IntKind.i64.wrap (m : Int) = (m : Int) := by simp [IntKind.wrap, IntKind.bits, IntKind.signed]; omega
 have h0 : ¬ (ol : Int) = 0 := by omega
 have X := hide (al (Below.refl w.heap.size w) (.cells #[.string ⟨bs.toArray⟩, .slice na nl nc, .slice oa ol oc] 24))
 unfold auV
 go_enter Tryz.func94, Tryz.ntmps94
 go_wp2
 go_ret
 exact ⟨rfl, X.out⟩
theorem w64_n (n : Nat) (h : n ≤ 9223372036854775807) : IntKind.i64.wrap (n : Int) = (n : Int) := by simp [IntKind.wrap, IntKind.bits, IntKind.signed]; omega
theorem step_any (bs : By) (na oa : Option Addr) (nc oc ol s b W c : Nat) (NX : List Nat) (w : World) (hn : NX.length ≤ 140737488351232) (ho : 0 < ol) (hW : NX.length / ol = W) (hb : b < bs.length) (hc : (bs[b]).toNat = c) (hi : s * W + c < NX.length) (hat : NAt w na NX) :
 Calls Tryz.prog 58 #[auV bs na NX.length nc oa ol oc, .int .i64 (s : Nat), .int .i64 (b : Nat)] w fun e w' => e = .returned (.int .i64 ((NX[s * W + c] : Nat) : Int)) ∧ Below w.heap.size w w' := by
 obtain ⟨nb, off, rfl, hnb, cx⟩ := hat.get hi
 generalize NX[s * W + c] = r at *
 have hwd := fun W' => width_any bs (some ⟨nb, off, none⟩) oa NX.length nc ol oc W' hn ho
 rw [hW] at hwd
 have hsW : s * W ≤ 140737488351232 := by omega
 have hbt : c < 256 := by rw [← hc]; exact (bs[b]).toNat_lt
 obtain ⟨y, hy⟩ : ∃ y, bs[b] = y := ⟨_, rfl⟩
 have hg : ∀ hk, (⟨bs.toArray⟩ : ByteArray)[b]'hk = y := fun _ => hy
 have f2 : IntKind.i64.wrap ((y.toNat : Nat) : Int) = (c : Int) := by rw [← hy, hc]; exact w64_n _ (by omega)
 clear hc hy
 have f1 : IntKind.i64.wrap ((s : Int) * (W : Int)) = ((s * W : Nat) : Int) := by rw [show (s : Int) * (W : Int) = ((s * W : Nat) : Int) by simp]; exact w64_n _ (by omega)
 generalize hm : s * W = m at *
 have f3 : IntKind.i64.wrap ((m : Int) + (c : Int)) = ((m + c : Nat) : Int) := by rw [show (m : Int) + (c : Int) = ((m + c : Nat) : Int) by simp]; exact w64_n _ (by omega)
 have hlb : (b : Int) < (bs.length : Int) := by omega
 have hln : (m : Int) + (c : Int) < (NX.length : Int) := by omega
 have hlz : (0 : Int) ≤ (m : Int) + (c : Int) := by omega
 have hlt : ((m : Int) + (c : Int)).toNat = m + c := by omega
 have X1 := hide (al (Below.refl w.heap.size w) (.cells #[.string ⟨bs.toArray⟩, .slice (some ⟨nb, off, none⟩) NX.length nc, .slice oa ol oc] 24))
 have B1 := heap_alloc_new w (.cells #[.string ⟨bs.toArray⟩, .slice (some ⟨nb, off, none⟩) NX.length nc, .slice oa ol oc] 24)
 have c0 : (w.alloc (.cells #[.string ⟨bs.toArray⟩, .slice (some ⟨nb, off, none⟩) NX.length nc, .slice oa ol oc] 24)).cell? ⟨w.heap.size, 0, none⟩ = some (.string ⟨bs.toArray⟩) := by rw [cell_of_row _ _ _ _ _ _ B1]; rfl
 have c1 : (w.alloc (.cells #[.string ⟨bs.toArray⟩, .slice (some ⟨nb, off, none⟩) NX.length nc, .slice oa ol oc] 24)).cell? ⟨w.heap.size, 1, none⟩ = some (.slice (some ⟨nb, off, none⟩) NX.length nc) := by rw [cell_of_row _ _ _ _ _ _ B1]; rfl
 have c2 : (w.alloc (.cells #[.string ⟨bs.toArray⟩, .slice (some ⟨nb, off, none⟩) NX.length nc, .slice oa ol oc] 24)).cell? ⟨w.heap.size, 2, none⟩ = some (.slice oa ol oc) := by rw [cell_of_row _ _ _ _ _ _ B1]; rfl
 have c3 := (X1.out.cell (p := ⟨nb, off + (m + c), none⟩) hnb).trans cx
 have hl1 := lt_of_block B1
 have hl2 : nb < (w.alloc (.cells #[.string ⟨bs.toArray⟩, .slice (some ⟨nb, off, none⟩) NX.length nc, .slice oa ol oc] 24)).heap.size := Nat.lt_of_lt_of_le hnb X1.out.size
 clear cx B1
 unfold auV
 go_enter Tryz.func58, Tryz.ntmps58
 go_wp2
 generalize w.alloc (.cells #[.string ⟨bs.toArray⟩, .slice (some ⟨nb, off, none⟩) NX.length nc, .slice oa ol oc] 24) = w1 at *
 have HDr : Hid (Below w1.heap.size w1 w1.drew) := (Below.refl _ _).drew
 refine wp_region_quiet (C := fun w' => Below w1.heap.size w1 w') (by kernel_rfl) (by kernel_rfl) HDr.out ?_
 refine QW.out (l := _ :: _) ?_
 iterate 4 (refine QW.take (by rfl) ?_; apply Exists.intro; refine ⟨fun w' hw' => ?_, ?_⟩; (· (have g0 := (hw'.cell (p := ⟨w.heap.size, 0, none⟩) hl1).trans c0; have g1 := (hw'.cell (p := ⟨w.heap.size, 1, none⟩) hl1).trans c1; have g2 := (hw'.cell (p := ⟨w.heap.size, 2, none⟩) hl1).trans c2; have g3 := (hw'.cell (p := ⟨nb, off + (m + c), none⟩) hl2).trans c3; go_simp; first | done | (first | done | rfl))); try simp only [Act.put, List.setIfInBounds_toArray, List.set_cons_zero, List.set_cons_succ])
 iterate 1 (refine QW.take (by rfl) ?_; apply Exists.intro; refine ⟨fun w' hw' => ?_, ?_⟩; (· (have g0 := (hw'.cell (p := ⟨w.heap.size, 0, none⟩) hl1).trans c0; have g1 := (hw'.cell (p := ⟨w.heap.size, 1, none⟩) hl1).trans c1; have g2 := (hw'.cell (p := ⟨w.heap.size, 2, none⟩) hl1).trans c2; have g3 := (hw'.cell (p := ⟨nb, off + (m + c), none⟩) hl2).trans c3; go_simp; (refine (hwd _).mono ?_; rintro e w2 ⟨rfl, x2⟩; exact ⟨rfl, hw'.trans (x2.mono hw'.size)⟩))); try simp only [Act.put, List.setIfInBounds_toArray, List.set_cons_zero, List.set_cons_succ])
 iterate 10 (refine QW.take (by rfl) ?_; apply Exists.intro; refine ⟨fun w' hw' => ?_, ?_⟩; (· (have g0 := (hw'.cell (p := ⟨w.heap.size, 0, none⟩) hl1).trans c0; have g1 := (hw'.cell (p := ⟨w.heap.size, 1, none⟩) hl1).trans c1; have g2 := (hw'.cell (p := ⟨w.heap.size, 2, none⟩) hl1).trans c2; have g3 := (hw'.cell (p := ⟨nb, off + (m + c), none⟩) hl2).trans c3; go_simp; first | done | (first | done | rfl))); try simp only [Act.put, List.setIfInBounds_toArray, List.set_cons_zero, List.set_cons_succ])
 refine QW.nil ?_
 intro w7 x7
 have X7 := hide (bt X1.out x7 (Nat.le_refl _))
 clear x7 c0 c1 c2 c3
 go_wp2
 go_ret
 exact ⟨rfl, X7.out⟩
end Go.Proofs.YtdgoilkgplnhfaaGreat
