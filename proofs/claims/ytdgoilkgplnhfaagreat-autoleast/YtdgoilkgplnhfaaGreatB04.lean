/-
  Looks numbered as they first occur, in a map and two rows of numbers. Of the program its types alone: no condition.
-/
import Derived.Test.YtdgoilkgplnhfaaGreatB03
import Derived.Maps.OwnSet
import Derived.Maps.Views
import Derived.Maps.Keyed
import Derived.Test.YtdgoilkgplnhfaaGreatB01
import Derived.Test.YtdgoilkgplnhfaaGreatB02
import Derived.Deep.RegionHeld3
import Derived.Lib.Strings
import Derived.Lib.Bytealg
namespace Go.Proofs.YtdgoilkgplnhfaaGreat
open Go.RowKit Go.Lib Go.Maps
def nCells (L : List Nat) : List Value := L.map fun (n : Nat) => Value.int .i64 (n : Int)
def OwnN (w : World) (base : Nat) (v : Value) (L : List Nat) : Prop := w.ownsRow base 3 1 v L.length (nCells L)
theorem nCells_snoc (L : List Nat) (n : Nat) : nCells (L ++ [n]) = nCells L ++ [.int .i64 (n : Int)] := by simp [nCells]
theorem nCells_length (L : List Nat) : (nCells L).length = L.length := by simp [nCells]
theorem nCells_get (L : List Nat) (i : Nat) (h : i < L.length) : (nCells L)[i]? = some (.int .i64 (L[i] : Int)) := by simp [nCells, h]
theorem OwnN.nil (w : World) (base : Nat) : OwnN w base (.slice none 0 0) [] := World.ownsRow_nil w base 3 1
theorem made_nums (n : Nat) : (madeCells (Value.int .i64 0).cells (n * 1)).toList = nCells (List.replicate n 0) := by
  unfold nCells
  simp only [madeCells, Value.cells, List.map_replicate, Nat.mul_one]
  rw [List.eq_replicate_iff]
  refine ⟨by simp, fun b hb => ?_⟩
  simp only [Array.toList_map, List.mem_map] at hb
  obtain ⟨x, _, rfl⟩ := hb
  simp [Nat.mod_one]
theorem Tryz.info3n : (Tryz.prog.info? 3).map (fun i => (i.zero, i.size, i.bytes)) = some (some (.int .i64 0), 1, 8) := by kernel_rfl
theorem OwnN.cell {w : World} {base g cap : Nat} {L : List Nat} {n : Nat} (h : OwnN w base (.slice (some ⟨g, 0, none⟩) n cap) L) {i : Nat} (hi : i < L.length) : w.cell? ⟨g, i, none⟩ = some (.int .i64 (L[i] : Int)) := by
  have hh : w.ownsRow base 3 1 (.slice (some ⟨g, 0, none⟩) n cap) L.length (nCells L) := h
  have hn : n = L.length := by
    rcases hh.2 with ⟨e, e2⟩ | ⟨g', c', cur, e, _⟩
    · cases e
    · injection e with _ e2 _
  subst hn
  rw [hh.cellAt i (by omega), nCells_get L i hi]
theorem nCells_set (L : List Nat) (i n : Nat) : (nCells L).set i (.int .i64 (n : Int)) = nCells (L.set i n) := by simp [nCells, List.map_set]
theorem OwnN.store {w : World} {base g cap n : Nat} {L : List Nat} (h : OwnN w base (.slice (some ⟨g, 0, none⟩) n cap) L) (i x : Nat) : OwnN (w.setCell ⟨g, i, none⟩ (.int .i64 (x : Int))) base (.slice (some ⟨g, 0, none⟩) n cap) (L.set i x) ∧ Kept (fun k => k = g) w (w.setCell ⟨g, i, none⟩ (.int .i64 (x : Int))) := by
  have hh : w.ownsRow base 3 1 (.slice (some ⟨g, 0, none⟩) n cap) L.length (nCells L) := h
  have hn : n = L.length := by
    rcases hh.2 with ⟨e, e2⟩ | ⟨g', c', cur, e, _⟩
    · cases e
    · injection e with _ e2 _
  subst hn
  obtain ⟨h1, h2⟩ := hh.stored i (.int .i64 (x : Int))
  refine ⟨?_, (kept_of_grown h2).mono (fun k hk => by injection hk with hk; exact hk.symm)⟩
  unfold OwnN
  rw [List.length_set, ← nCells_set]
  exact h1
def MpAt (k : TypeId) (w : World) (b : Nat) (ks : List Lit) : Prop := ∃ D : DataW Unit, w.ownsMap Tryz.prog k (plainElem Tryz.prog 3) b ks.length D ∧ (∀ kl, Maps.has D kl = true ↔ kl ∈ ks) ∧ ∀ i (h : i < ks.length), D.atKey ks[i] (.lit (.int .i64 0)) = .lit (.int .i64 (i : Int))
theorem MpAt.congr {k : TypeId} {w w' : World} {b : Nat} {ks : List Lit} (h : MpAt k w b ks) (e : w'.heap[b]? = w.heap[b]?) : MpAt k w' b ks := by
  obtain ⟨D, ⟨es, cl, h1, h2⟩, h3⟩ := h
  exact ⟨D, ⟨es, cl, e.trans h1, h2⟩, h3⟩
theorem MpAt.blk {k : TypeId} {w : World} {b : Nat} {ks : List Lit} (h : MpAt k w b ks) : ∃ es cl, w.heap[b]? = some (.map es cl) := by
  obtain ⟨D, ⟨es, cl, h1, h2⟩, h3⟩ := h
  exact ⟨es, cl, h1⟩
theorem MpAt.lt {k : TypeId} {w : World} {b : Nat} {ks : List Lit} (h : MpAt k w b ks) : b < w.heap.size := by
  obtain ⟨D, h1, _⟩ := h
  exact h1.lt
theorem MpAt.made (k : TypeId) (w : World) : MpAt k (w.alloc (.map #[] 0)) w.heap.size [] :=
  ⟨.map [], World.ownsMap_made w Tryz.prog k _, fun kl => by simp [Maps.has_eq], fun i h => by cases h⟩
theorem MpAt.below {k : TypeId} {w w' : World} {b : Nat} {ks : List Lit} (h : MpAt k w b ks) (x : Below w.heap.size w w') : MpAt k w' b ks := h.congr (x.block b h.lt)
theorem MpAt.kept {k : TypeId} {F : Nat → Prop} {w w' : World} {b : Nat} {ks : List Lit} (h : MpAt k w b ks) (x : Kept F w w') (hF : ¬ F b) : MpAt k w' b ks := h.congr (x.block b h.lt hF)
theorem own_ne_map {k : TypeId} {w : World} {b base size n : Nat} {e : TypeId} {v : Value} {xs : List Value} {ks : List Lit} (h : MpAt k w b ks) (ho : w.ownsRow base e size v n xs) : ¬ v.ownBlock = some b := fun hf => by
  obtain ⟨es, cl, h1⟩ := h.blk
  obtain ⟨cs, h2⟩ := own_ty ho b hf
  rw [h1] at h2
  cases h2
theorem atKey_lit {D : DataW Unit} {ks : List Lit} (h : ∀ i (h : i < ks.length), D.atKey ks[i] (.lit (.int .i64 0)) = .lit (.int .i64 (i : Int))) {kl : Lit} {c : Int} (hc : D.atKey kl (.lit (.int .i64 0)) = .lit (.int .i64 c)) (hm : kl ∈ ks) : ∃ i, ∃ h : i < ks.length, ks[i] = kl ∧ c = (i : Int) := by
  obtain ⟨i, hi, e⟩ := List.mem_iff_getElem.1 hm
  refine ⟨i, hi, e, ?_⟩
  have := h i hi
  rw [e, hc] at this
  injection this with this
  injection this with _ this
theorem MpAt.put {k : TypeId} {w' : World} {b : Nat} {ks : List Lit} {kl : Lit} {D : DataW Unit} (hk : WideAt.IsKeyLit kl) (hn : kl ∉ ks) (hm : IsMap D) (hh : ∀ kl, Maps.has D kl = true ↔ kl ∈ ks) (ha : ∀ i (h : i < ks.length), D.atKey ks[i] (.lit (.int .i64 0)) = .lit (.int .i64 (i : Int)))
    (h1 : w'.ownsMap Tryz.prog k (plainElem Tryz.prog 3) b (ks.length + 1) (D.put kl (.lit (.int .i64 (ks.length : Int))))) : MpAt k w' b (ks ++ [kl]) := by
  refine ⟨D.put kl (.lit (.int .i64 (ks.length : Int))), by rw [List.length_append]; exact h1, fun x => ?_, fun i hi => ?_⟩
  · by_cases hx : x = kl
    · subst hx
      rw [Maps.has_put_same hm hk]
      simp
    · rw [Maps.has_put_other hx, hh x]
      simp [hx]
  · by_cases hi2 : i < ks.length
    · rw [List.getElem_append_left hi2, Maps.atKey_put_other (fun e => hn (by rw [← e]; exact List.getElem_mem hi2))]
      exact ha i hi2
    · have : i = ks.length := by rw [List.length_append, List.length_singleton] at hi; omega
      subst this
      rw [List.getElem_append_right (Nat.le_refl _)]
      simp only [Nat.sub_self, List.getElem_cons_zero]
      exact Maps.atKey_put_same hm hk _ _
def gN (L : List Nat) (i : Nat) : Nat := L.getD i 0
theorem gN_lt {L : List Nat} {i : Nat} (h : i < L.length) : gN L i = L[i] := by simp [gN, List.getD_eq_getElem?_getD, h]
theorem gN_left {L : List Nat} {x i : Nat} (h : i < L.length) : gN (L ++ [x]) i = gN L i := by simp [gN, List.getD_eq_getElem?_getD, List.getElem?_append, h]
theorem gN_last (L : List Nat) (x : Nat) : gN (L ++ [x]) L.length = x := by simp [gN, List.getD_eq_getElem?_getD]
section
variable {α : Type} {look : Nat → α} {num fst : List Nat}
theorem NumF.nil : NumF look 0 (gN []) (gN []) 0 := ⟨fun i h => by omega, fun i h => by omega, fun i h => by omega, fun i h => by omega, fun i h => by omega, fun i l _ h => by omega⟩
theorem NumF.hit (h : NumF look num.length (gN num) (gN fst) fst.length) {n : Nat} (hn : n < fst.length) (he : look (gN fst n) = look num.length) : NumF look (num.length + 1) (gN (num ++ [n])) (gN fst) fst.length := by
  have e : ∀ i, i < num.length → gN (num ++ [n]) i = gN num i := fun i hi => gN_left hi
  have hf : ∀ k, k < fst.length → gN fst k < num.length := h.fstlt
  refine ⟨fun i hi => ?_, fun i hi => ?_, fun k hk => by have := hf k hk; omega, fun k hk => by rw [e _ (hf k hk)]; exact h.numfst k hk, h.first, h.inc⟩
  · by_cases h2 : i < num.length
    · rw [e i h2]; exact h.numlt i h2
    · obtain rfl : i = num.length := by omega
      rw [gN_last]; exact hn
  · by_cases h2 : i < num.length
    · rw [e i h2]; exact h.lk i h2
    · obtain rfl : i = num.length := by omega
      rw [gN_last]; exact he
theorem NumF.miss (h : NumF look num.length (gN num) (gN fst) fst.length) (hne : ∀ k, k < fst.length → look (gN fst k) ≠ look num.length) : NumF look (num.length + 1) (gN (num ++ [fst.length])) (gN (fst ++ [num.length])) (fst.length + 1) := by
  have e : ∀ i, i < num.length → gN (num ++ [fst.length]) i = gN num i := fun i hi => gN_left hi
  have e2 : ∀ k, k < fst.length → gN (fst ++ [num.length]) k = gN fst k := fun i hi => gN_left hi
  have hf : ∀ k, k < fst.length → gN fst k < num.length := h.fstlt
  have hne2 : ∀ i, i < num.length → look i ≠ look num.length := fun i hi he => hne _ (h.numlt i hi) ((h.lk i hi).trans he)
  refine ⟨fun i hi => ?_, fun i hi => ?_, fun k hk => ?_, fun k hk => ?_, fun k hk i hi => ?_, fun k l hkl hl => ?_⟩
  · by_cases h2 : i < num.length
    · rw [e i h2]; have := h.numlt i h2; omega
    · obtain rfl : i = num.length := by omega
      rw [gN_last]; omega
  · by_cases h2 : i < num.length
    · rw [e i h2, e2 _ (h.numlt i h2)]; exact h.lk i h2
    · obtain rfl : i = num.length := by omega
      rw [gN_last, gN_last]
  · by_cases h2 : k < fst.length
    · rw [e2 k h2]; have := hf k h2; omega
    · obtain rfl : k = fst.length := by omega
      rw [gN_last]; omega
  · by_cases h2 : k < fst.length
    · rw [e2 k h2, e _ (hf k h2)]; exact h.numfst k h2
    · obtain rfl : k = fst.length := by omega
      rw [gN_last, gN_last]
  · by_cases h2 : k < fst.length
    · rw [e2 k h2] at hi ⊢; exact h.first k h2 i hi
    · obtain rfl : k = fst.length := by omega
      rw [gN_last] at hi ⊢; exact hne2 i hi
  · by_cases h2 : l < fst.length
    · rw [e2 l h2, e2 k (by omega)]; exact h.inc k l hkl h2
    · obtain rfl : l = fst.length := by omega
      rw [gN_last, e2 k (by omega)]; exact hf k (by omega)
end
structure NmS (k : TypeId) (w0 : World) (lit : Nat → Lit) (N mb : Nat) (v1 v2 : Value) (num fst : List Nat) (w : World) : Prop where
  map : MpAt k w mb (fst.map lit)
  o1 : OwnN w w0.heap.size v1 (num ++ List.replicate (N - num.length) 0)
  o2 : OwnN w w0.heap.size v2 fst
  ap : ∀ b, v1.ownBlock = some b → ¬ v2.ownBlock = some b
  mge : w0.heap.size ≤ mb
  nf : NumF lit num.length (gN num) (gN fst) fst.length
  le : num.length ≤ N
  bel : Below w0.heap.size w0 w
  v2ne : ∀ b, v2.ownBlock = some b → ¬ b = mb
section
variable {k : TypeId} {w0 w w' : World} {lit : Nat → Lit} {N mb : Nat} {v1 v2 : Value} {num fst : List Nat}
theorem NmS.below (h : NmS k w0 lit N mb v1 v2 num fst w) (x : Below w.heap.size w w') : NmS k w0 lit N mb v1 v2 num fst w' :=
  ⟨h.map.below x, own_below h.o1 x, own_below h.o2 x, h.ap, h.mge, h.nf, h.le, h.bel.trans (x.mono h.bel.size), h.v2ne⟩
theorem set_next (num : List Nat) {N x : Nat} (h : num.length < N) : (num ++ List.replicate (N - num.length) 0).set num.length x = (num ++ [x]) ++ List.replicate (N - (num ++ [x]).length) 0 := by
  rw [List.set_append_right _ _ (Nat.le_refl _), Nat.sub_self, List.length_append, List.length_singleton, List.append_assoc]
  obtain ⟨m, hm⟩ : ∃ m, N - num.length = m + 1 := ⟨N - num.length - 1, by omega⟩
  rw [hm, show N - (num.length + 1) = m by omega]
  rfl
theorem NmS.len {g cap n : Nat} (h : NmS k w0 lit N mb (.slice (some ⟨g, 0, none⟩) n cap) v2 num fst w) : n = N := by
  have hh : w.ownsRow w0.heap.size 3 1 (.slice (some ⟨g, 0, none⟩) n cap) _ (nCells (num ++ List.replicate (N - num.length) 0)) := h.o1
  have hle := h.le
  rcases hh.2 with ⟨e, e2⟩ | ⟨g', c', cur, e, _⟩
  · cases e
  · injection e with _ e2 _
    rw [e2, List.length_append, List.length_replicate]
    omega
end
end Go.Proofs.YtdgoilkgplnhfaaGreat
namespace Go.Proofs.YtdgoilkgplnhfaaGreat
abbrev By := List UInt8
def tkL (least : Nat) : By → Except By (UInt8 × By)
  | [] => .error []
  | c :: t => if least ≤ c.toNat ∧ c.toNat ≤ 126 then .ok (c, t) else .error (c :: t)
def mbL (least : Nat) (r : By) : Except By (UInt8 × By) :=
  if [92].isPrefixOf r then tkL least (r.drop 1) else if [93].isPrefixOf r || [45].isPrefixOf r then .error r else tkL least r
def itL (r : By) : Except By (Spn × By) := match mbL 32 r with
  | .error t => .error t
  | .ok (lo, t) => if [45].isPrefixOf t then (match mbL lo.toNat (t.drop 1) with
    | .error u => .error u
    | .ok (hi, u) => .ok ((((lo.toNat : Nat) : Int), ((hi.toNat : Nat) : Int)), u)) else .ok ((((lo.toNat : Nat) : Int), ((lo.toNat : Nat) : Int)), t)
def itsL : Nat → By → List Spn → Except By (List Spn × By)
  | 0, r, _ => .error r
  | n + 1, r, A => if !A.isEmpty && [93].isPrefixOf r then .ok (A, r.drop 1) else match itL r with
    | .error t => .error t
    | .ok (s, t) => itsL n t (A ++ [s])
structure Pc where
  kind : Int
  b : Int
  no : Bool
  set : List Spn
def insS (s : Spn) : List Spn → List Spn
  | [] => [s]
  | t :: L => if s.1 ≤ t.1 then s :: t :: L else t :: insS s L
def srtS : List Spn → List Spn
  | [] => []
  | s :: L => insS s (srtS L)
theorem insS_perm (s : Spn) : ∀ L, (insS s L).Perm (s :: L)
  | [] => List.Perm.refl _
  | t :: L => by
    unfold insS
    split
    · exact List.Perm.refl _
    · exact ((insS_perm s L).cons t).trans (List.Perm.swap s t L)
theorem srtS_perm : ∀ L, (srtS L).Perm L
  | [] => List.Perm.refl _
  | s :: L => (insS_perm s _).trans ((srtS_perm L).cons s)
theorem insS_sorted (s : Spn) : ∀ L : List Spn, L.Pairwise (fun s t => s.1 ≤ t.1) → (insS s L).Pairwise (fun s t => s.1 ≤ t.1)
  | [], _ => List.pairwise_singleton _ _
  | t :: L, h => by
    unfold insS
    split
    · rename_i hs
      refine List.pairwise_cons.2 ⟨fun x hx => ?_, h⟩
      rcases List.mem_cons.1 hx with rfl | hx
      · exact hs
      · exact Int.le_trans hs ((List.pairwise_cons.1 h).1 x hx)
    · rename_i hs
      refine List.pairwise_cons.2 ⟨fun x hx => ?_, insS_sorted s L (List.pairwise_cons.1 h).2⟩
      rcases List.mem_cons.1 ((insS_perm s L).mem_iff.1 hx) with rfl | hx
      · omega
      · exact (List.pairwise_cons.1 h).1 x hx
theorem srtS_sorted : ∀ L : List Spn, (srtS L).Pairwise (fun s t => s.1 ≤ t.1)
  | [] => List.Pairwise.nil
  | s :: L => insS_sorted s _ (srtS_sorted L)
def setOf (A : List Spn) : List Spn := joinAll (srtS A)
theorem memB_perm {L M : List Spn} (h : L.Perm M) (n : Int) : memB n L = memB n M := by
  rw [Bool.eq_iff_iff, memB_iff, memB_iff]
  exact ⟨fun ⟨s, hs, h1⟩ => ⟨s, h.mem_iff.1 hs, h1⟩, fun ⟨s, hs, h1⟩ => ⟨s, h.mem_iff.2 hs, h1⟩⟩
theorem setOf_spec {A : List Spn} (hb : ∀ s ∈ A, Bnd s) : IsSet (setOf A) ∧ ∀ n, memB n (setOf A) = memB n A := by
  have h := joinAll_spec _ (srtS A) rfl (fun s hs => hb s ((srtS_perm A).mem_iff.1 hs)) (srtS_sorted A)
  exact ⟨h.1, fun n => (h.2.1 n).trans (memB_perm (srtS_perm A) n)⟩
theorem setOf_eq {A M : List Spn} (hb : ∀ s ∈ A, Bnd s) (h1 : IsSet M) (h2 : ∀ n, memB n M = memB n A) : setOf A = M :=
  IsSet.unique (setOf_spec hb).1 h1 (fun n => by rw [(setOf_spec hb).2, h2])
def stL (r : By) : Except By (Pc × By) :=
  let no := [33].isPrefixOf r
  let r1 := if no then r.drop 1 else r
  match itsL (r1.length + 1) r1 [] with
  | .error t => .error t
  | .ok (A, t) => .ok (⟨3, 0, no, setOf A⟩, t)
def pcL (r : By) : Except By (Pc × By) :=
  if [42, 42].isPrefixOf r then .ok (⟨5, 0, false, []⟩, r.drop 2)
  else if [42].isPrefixOf r then .ok (⟨4, 0, false, []⟩, r.drop 1)
  else if [63].isPrefixOf r then .ok (⟨2, 0, false, []⟩, r.drop 1)
  else if [91].isPrefixOf r then stL (r.drop 1)
  else match tkL 32 (if [92].isPrefixOf r then r.drop 1 else r) with
    | .error t => .error t
    | .ok (c, t) => .ok (⟨1, ((c.toNat : Nat) : Int), false, []⟩, t)
def psL : Nat → By → List Pc → Except By (List Pc)
  | 0, r, _ => .error r
  | n + 1, r, A => if r = [] then .ok A else if A.length = 64 then .error r else match pcL r with
    | .error t => .error t
    | .ok (p, t) => psL n t (A ++ [p])
def parL (s : By) : Except By (List Pc) := psL (s.length + 1) s []
theorem drop_lt {r : By} {q : By} (h : q.isPrefixOf r = true) (hq : 0 < q.length) : (r.drop q.length).length < r.length ∧ (r.drop q.length) <:+ r := by
  obtain ⟨t, rfl⟩ := List.isPrefixOf_iff_prefix.1 h
  simp
  omega
theorem drop1 {r : By} {c : UInt8} (h : [c].isPrefixOf r = true) : (r.drop 1).length < r.length ∧ (r.drop 1) <:+ r := drop_lt h (by simp)
theorem tkL_ok {least : Nat} {r t : By} {c : UInt8} (h : tkL least r = .ok (c, t)) : r = c :: t ∧ least ≤ c.toNat ∧ c.toNat ≤ 126 := by
  cases r with
  | nil => cases h
  | cons d r =>
    rw [show tkL least (d :: r) = if least ≤ d.toNat ∧ d.toNat ≤ 126 then .ok (d, r) else .error (d :: r) from rfl] at h
    split at h
    · injection h with h; injection h with h1 h2; subst h1 h2; rename_i h; exact ⟨rfl, h⟩
    · cases h
theorem mbL_ok {least : Nat} {r t : By} {c : UInt8} (h : mbL least r = .ok (c, t)) : t.length < r.length ∧ t <:+ r ∧ least ≤ c.toNat ∧ c.toNat ≤ 126 := by
  unfold mbL at h
  split at h
  · rename_i h1
    obtain ⟨h2, h3⟩ := drop1 h1
    obtain ⟨h4, h5, h6⟩ := tkL_ok h
    rw [h4] at h2 h3
    exact ⟨by simp at h2; omega, (List.suffix_cons c t).trans h3, h5, h6⟩
  · split at h
    · cases h
    · obtain ⟨h4, h5, h6⟩ := tkL_ok h
      subst h4
      exact ⟨by simp, List.suffix_cons c t, h5, h6⟩
theorem itL_ok {r t : By} {s : Spn} (h : itL r = .ok (s, t)) : t.length < r.length ∧ t <:+ r ∧ 32 ≤ s.1 ∧ s.1 ≤ s.2 ∧ s.2 ≤ 126 := by
  unfold itL at h
  split at h
  · cases h
  · rename_i lo t1 h1
    obtain ⟨a1, a2, a3, a4⟩ := mbL_ok h1
    split at h
    · rename_i h2
      obtain ⟨b1, b2⟩ := drop1 h2
      split at h
      · cases h
      · rename_i hi u h3
        obtain ⟨c1, c2, c3, c4⟩ := mbL_ok h3
        injection h with h; injection h with e1 e2; subst e1 e2
        exact ⟨by omega, c2.trans (b2.trans a2), by simp; omega, by simp; omega, by simp; omega⟩
    · injection h with h; injection h with e1 e2; subst e1 e2
      exact ⟨a1, a2, by simp; omega, by simp, by simp; omega⟩
def InB (s : Spn) : Prop := 32 ≤ s.1 ∧ s.1 ≤ s.2 ∧ s.2 ≤ 126
theorem itsL_ok : ∀ {n : Nat} {r t : By} {A B : List Spn}, itsL n r A = .ok (B, t) → (∀ s ∈ A, InB s) → t.length < r.length ∧ t <:+ r ∧ B ≠ [] ∧ ∀ s ∈ B, InB s
  | 0, r, t, A, B, h, _ => by cases h
  | n + 1, r, t, A, B, h, hA => by
    unfold itsL at h
    split at h
    · rename_i hb
      injection h with h; injection h with h1 h2; subst h1 h2
      simp only [Bool.and_eq_true, Bool.not_eq_true', List.isEmpty_eq_false_iff] at hb
      obtain ⟨d1, d2⟩ := drop1 hb.2
      exact ⟨d1, d2, hb.1, hA⟩
    · split at h
      · cases h
      · rename_i s t1 hi
        obtain ⟨a1, a2, a3, a4, a5⟩ := itL_ok hi
        obtain ⟨b1, b2, b3, b4⟩ := itsL_ok h (fun x hx => by
          rcases List.mem_append.1 hx with hx | hx
          · exact hA x hx
          · rw [List.mem_singleton.1 hx]; exact ⟨a3, a4, a5⟩)
        exact ⟨by omega, b2.trans a2, b3, b4⟩
def Rp (p : Pc) : Prop := (p.kind = 1 ∧ 32 ≤ p.b ∧ p.b ≤ 126 ∧ p.no = false ∧ p.set = []) ∨ ((p.kind = 2 ∨ p.kind = 4 ∨ p.kind = 5) ∧ p.b = 0 ∧ p.no = false ∧ p.set = []) ∨ (p.kind = 3 ∧ p.b = 0 ∧ IsSet p.set ∧ p.set ≠ [] ∧ ∀ s ∈ p.set, 32 ≤ s.1 ∧ s.2 ≤ 126)
theorem InB.bnd {s : Spn} (h : InB s) : Bnd s := by
  unfold InB at h
  unfold Bnd
  omega
theorem setOf_in {A : List Spn} (hA : ∀ s ∈ A, InB s) (hne : A ≠ []) : IsSet (setOf A) ∧ setOf A ≠ [] ∧ ∀ s ∈ setOf A, 32 ≤ s.1 ∧ s.2 ≤ 126 := by
  obtain ⟨h1, h2⟩ := setOf_spec (fun s hs => (hA s hs).bnd)
  refine ⟨h1, fun h => ?_, fun s hs => ?_⟩
  · cases A with
    | nil => exact hne rfl
    | cons x A =>
      have h3 := h2 x.1
      rw [h, memB_nil, memB_cons] at h3
      have := hA x (by simp)
      unfold InB at this
      simp [this.2.1] at h3
  · have hb := h1.1 s hs
    unfold Bnd at hb
    have e1 : memB s.1 A = true := by rw [← h2]; exact (memB_iff _ _).2 ⟨s, hs, Int.le_refl _, hb.2.1⟩
    have e2 : memB s.2 A = true := by rw [← h2]; exact (memB_iff _ _).2 ⟨s, hs, hb.2.1, Int.le_refl _⟩
    obtain ⟨x, hx, a1, a2⟩ := (memB_iff _ _).1 e1
    obtain ⟨y, hy, b1, b2⟩ := (memB_iff _ _).1 e2
    have hx' := hA x hx
    have hy' := hA y hy
    unfold InB at hx' hy'
    omega
theorem stL_ok {r t : By} {p : Pc} (h : stL r = .ok (p, t)) : t.length < r.length ∧ t <:+ r ∧ Rp p ∧ p.kind = 3 := by
  unfold stL at h
  simp only at h
  split at h
  · cases h
  · rename_i A t1 hi
    injection h with h; injection h with h1 h2; subst h1 h2
    obtain ⟨a1, a2, a3, a4⟩ := itsL_ok hi (fun s hs => by cases hs)
    obtain ⟨b1, b2, b3⟩ := setOf_in a4 a3
    have hr : (if [33].isPrefixOf r = true then r.drop 1 else r).length ≤ r.length ∧ (if [33].isPrefixOf r = true then r.drop 1 else r) <:+ r := by
      split
      · rename_i hb; exact ⟨Nat.le_of_lt (drop1 hb).1, (drop1 hb).2⟩
      · exact ⟨Nat.le_refl _, List.suffix_refl _⟩
    exact ⟨by omega, a2.trans hr.2, .inr (.inr ⟨rfl, rfl, b1, b2, b3⟩), rfl⟩
theorem pcL_ok {r t : By} {p : Pc} (h : pcL r = .ok (p, t)) : t.length < r.length ∧ t <:+ r ∧ Rp p := by
  unfold pcL at h
  split at h
  · rename_i hb; injection h with h; injection h with h1 h2; subst h1 h2; exact ⟨(drop_lt hb (by decide)).1, (drop_lt hb (by decide)).2, .inr (.inl ⟨.inr (.inr rfl), rfl, rfl, rfl⟩)⟩
  · split at h
    · rename_i hb; injection h with h; injection h with h1 h2; subst h1 h2; exact ⟨(drop1 hb).1, (drop1 hb).2, .inr (.inl ⟨.inr (.inl rfl), rfl, rfl, rfl⟩)⟩
    · split at h
      · rename_i hb; injection h with h; injection h with h1 h2; subst h1 h2; exact ⟨(drop1 hb).1, (drop1 hb).2, .inr (.inl ⟨.inl rfl, rfl, rfl, rfl⟩)⟩
      · split at h
        · rename_i hb
          obtain ⟨a1, a2, a3, _⟩ := stL_ok h
          exact ⟨Nat.lt_trans a1 (drop1 hb).1, a2.trans (drop1 hb).2, a3⟩
        · split at h
          · cases h
          · rename_i c t1 hi
            injection h with h; injection h with h1 h2; subst h1 h2
            obtain ⟨a1, a2, a3⟩ := tkL_ok hi
            have hr : (if [92].isPrefixOf r = true then r.drop 1 else r).length ≤ r.length ∧ (if [92].isPrefixOf r = true then r.drop 1 else r) <:+ r := by
              split
              · rename_i hb; exact ⟨Nat.le_of_lt (drop1 hb).1, (drop1 hb).2⟩
              · exact ⟨Nat.le_refl _, List.suffix_refl _⟩
            rw [a1] at hr
            exact ⟨by have := hr.1; simp at this; omega, (List.suffix_cons c t1).trans hr.2, .inl ⟨rfl, by simp; omega, by simp; omega, rfl, rfl⟩⟩
end Go.Proofs.YtdgoilkgplnhfaaGreat
namespace Go.Proofs.YtdgoilkgplnhfaaGreat
open Go.RowKit Go.Lib
theorem bt {N : Nat} {a b c : World} (h : Below N a b) (k : Below b.heap.size b c) (hN : N ≤ a.heap.size) : Below N a c := h.trans (k.mono (Nat.le_trans hN h.size))
theorem al {w w' : World} (h : Below w.heap.size w w') (o : Obj) : Below w.heap.size w (w'.alloc o) := h.alloc h.size o
theorem block_setCell {w : World} {b : Nat} {cs : Array Value} {t : TypeId} {fr : Nat × Nat} (h : w.heap[b]? = some (.cells cs t fr)) (j : Nat) (u : Value) : (w.setCell ⟨b, j, none⟩ u).heap[b]? = some (.cells (cs.set! j u) t fr) := by
  have hlt := lt_of_block h
  have h' : w.heap[b] = .cells cs t fr := by simpa [Array.getElem?_eq_getElem hlt] using h
  show (w.heap.modify b _)[b]? = _
  rw [Array.getElem?_eq_getElem (by simpa using hlt), Array.getElem_modify_self, h']
  rfl
theorem st2 {W : World} {g : Nat} {a b : Value} {T : TypeId} (B : W.heap[g]? = some (.cells #[a, b] T (0, 0))) (x y : Value) :
    W.cell? ⟨g, 0, none⟩ = some a ∧ W.frozen? ⟨g, 0, none⟩ = false ∧ (W.setCell ⟨g, 0, none⟩ x).cell? ⟨g, 1, none⟩ = some b ∧ (W.setCell ⟨g, 0, none⟩ x).frozen? ⟨g, 1, none⟩ = false ∧ ((W.setCell ⟨g, 0, none⟩ x).setCell ⟨g, 1, none⟩ y).cell? ⟨g, 0, none⟩ = some x ∧ ((W.setCell ⟨g, 0, none⟩ x).setCell ⟨g, 1, none⟩ y).cell? ⟨g, 1, none⟩ = some y ∧ Kept (fun k => k = g) W ((W.setCell ⟨g, 0, none⟩ x).setCell ⟨g, 1, none⟩ y) := by
  have B1 : (W.setCell ⟨g, 0, none⟩ x).heap[g]? = some (.cells #[x, b] T (0, 0)) := block_setCell B 0 x
  have B2 : ((W.setCell ⟨g, 0, none⟩ x).setCell ⟨g, 1, none⟩ y).heap[g]? = some (.cells #[x, y] T (0, 0)) := block_setCell B1 1 y
  refine ⟨?_, frozen_of_row _ _ _ _ _ B, ?_, frozen_of_row _ _ _ _ _ B1, ?_, ?_, Kept.setCell (F := fun k => k = g) (p := ⟨g, 1, none⟩) (Kept.setCell (F := fun k => k = g) (p := ⟨g, 0, none⟩) (Kept.refl _ _) rfl _) rfl _⟩
  · rw [cell_of_row _ _ _ _ _ _ B]; rfl
  · rw [cell_of_row _ _ _ _ _ _ B1]; rfl
  · rw [cell_of_row _ _ _ _ _ _ B2]; rfl
  · rw [cell_of_row _ _ _ _ _ _ B2]; rfl
theorem st4 {W : World} {g : Nat} {a b c d : Value} {T : TypeId} (B : W.heap[g]? = some (.cells #[a, b, c, d] T (0, 0))) (x y z u : Value) :
    W.cell? ⟨g, 0, none⟩ = some a ∧ W.frozen? ⟨g, 0, none⟩ = false ∧ (W.setCell ⟨g, 0, none⟩ x).cell? ⟨g, 1, none⟩ = some b ∧ (W.setCell ⟨g, 0, none⟩ x).frozen? ⟨g, 1, none⟩ = false ∧
    ((W.setCell ⟨g, 0, none⟩ x).setCell ⟨g, 1, none⟩ y).cell? ⟨g, 2, none⟩ = some c ∧ ((W.setCell ⟨g, 0, none⟩ x).setCell ⟨g, 1, none⟩ y).frozen? ⟨g, 2, none⟩ = false ∧
    (((W.setCell ⟨g, 0, none⟩ x).setCell ⟨g, 1, none⟩ y).setCell ⟨g, 2, none⟩ z).cell? ⟨g, 3, none⟩ = some d ∧ (((W.setCell ⟨g, 0, none⟩ x).setCell ⟨g, 1, none⟩ y).setCell ⟨g, 2, none⟩ z).frozen? ⟨g, 3, none⟩ = false ∧
    ((((W.setCell ⟨g, 0, none⟩ x).setCell ⟨g, 1, none⟩ y).setCell ⟨g, 2, none⟩ z).setCell ⟨g, 3, none⟩ u).heap[g]? = some (.cells #[x, y, z, u] T (0, 0)) ∧ Kept (fun k => k = g) W ((((W.setCell ⟨g, 0, none⟩ x).setCell ⟨g, 1, none⟩ y).setCell ⟨g, 2, none⟩ z).setCell ⟨g, 3, none⟩ u) := by
  have B1 : (W.setCell ⟨g, 0, none⟩ x).heap[g]? = some (.cells #[x, b, c, d] T (0, 0)) := block_setCell B 0 x
  have B2 : ((W.setCell ⟨g, 0, none⟩ x).setCell ⟨g, 1, none⟩ y).heap[g]? = some (.cells #[x, y, c, d] T (0, 0)) := block_setCell B1 1 y
  have B3 : (((W.setCell ⟨g, 0, none⟩ x).setCell ⟨g, 1, none⟩ y).setCell ⟨g, 2, none⟩ z).heap[g]? = some (.cells #[x, y, z, d] T (0, 0)) := block_setCell B2 2 z
  have B4 : ((((W.setCell ⟨g, 0, none⟩ x).setCell ⟨g, 1, none⟩ y).setCell ⟨g, 2, none⟩ z).setCell ⟨g, 3, none⟩ u).heap[g]? = some (.cells #[x, y, z, u] T (0, 0)) := block_setCell B3 3 u
  refine ⟨?_, frozen_of_row _ _ _ _ _ B, ?_, frozen_of_row _ _ _ _ _ B1, ?_, frozen_of_row _ _ _ _ _ B2, ?_, frozen_of_row _ _ _ _ _ B3, B4, Kept.setCell (F := fun k => k = g) (p := ⟨g, 3, none⟩) (Kept.setCell (F := fun k => k = g) (p := ⟨g, 2, none⟩) (Kept.setCell (F := fun k => k = g) (p := ⟨g, 1, none⟩) (Kept.setCell (F := fun k => k = g) (p := ⟨g, 0, none⟩) (Kept.refl _ _) rfl _) rfl _) rfl _) rfl _⟩
  · rw [cell_of_row _ _ _ _ _ _ B]; rfl
  · rw [cell_of_row _ _ _ _ _ _ B1]; rfl
  · rw [cell_of_row _ _ _ _ _ _ B2]; rfl
  · rw [cell_of_row _ _ _ _ _ _ B3]; rfl
def sv (l : By) : Value := .string ⟨l.toArray⟩
set_option maxHeartbeats 1000000 in
theorem hasPre_any (s p : By) (w : World) : Calls Tryz.prog 124 #[.string ⟨s.toArray⟩, .string ⟨p.toArray⟩] w fun e w' => e = .returned (.bool (p.isPrefixOf s)) ∧ w' = w := by
  have hr := Lib.hasPrefix_raw ⟨s.toArray⟩ ⟨p.toArray⟩
  unfold Lib.hasPrefix at hr
  simp only at hr
  rw [← hr]
  clear hr
  go_enter Tryz.func124, Tryz.ntmps124
  go_wp2
  · rename_i h
    go_ret
    have h' : (⟨p.toArray⟩ : ByteArray).size ≤ (⟨s.toArray⟩ : ByteArray).size := h
    rw [decide_eq_true h', Bool.true_and]
    exact ⟨congrArg (fun b => Ending.returned (Value.bool b)) (by rw [Lib.toList_data ⟨p.toArray⟩]; rfl), rfl⟩
  · rename_i h
    go_ret
    have h' : ¬ (⟨p.toArray⟩ : ByteArray).size ≤ (⟨s.toArray⟩ : ByteArray).size := h
    rw [decide_eq_false h', Bool.false_and]
    exact ⟨rfl, rfl⟩
set_option maxHeartbeats 1000000 in
set_option maxRecDepth 100000 in
theorem idxByte_any (s : By) (c : Int) (w : World) : Calls Tryz.prog 100 #[.string ⟨s.toArray⟩, .int .u8 c] w fun e w' => e = .returned (.int .i64 (Lib.indexByte s c.toNat.toUInt8)) ∧ w' = w := by
  have H : Calls Tryz.prog 130 #[.string ⟨s.toArray⟩, .int .u8 c] w fun e w' => e = .returned (.int .i64 (Lib.indexByte s c.toNat.toUInt8)) ∧ w' = w := by
    go_enter Tryz.func130, Tryz.ntmps130
    go_wp2
    rw [run_callFunc_extern Tryz.func161 (by kernel_rfl) (by kernel_rfl) (by kernel_rfl) (e := Extern.BytealgIndexByte.indexByte) (by kernel_rfl), Lib.run_indexByteString]
    simp only [Result.andThen]
    rw [Oper.upon_value]
    go_wp2
    go_ret
    exact ⟨rfl, rfl⟩
  go_enter Tryz.func100, Tryz.ntmps100
  go_wp2_with (go_at_call 130; refine H.mono ?_; rintro e w2 ⟨rfl, hw2⟩; subst hw2)
  go_ret
  exact ⟨rfl, rfl⟩
def RdAt (w : World) (rb : Nat) (p r : By) : Prop := w.heap[rb]? = some (.cells #[.string ⟨(p ++ r).toArray⟩, .int .i64 (p.length : Nat)] 93 (0, 0))
theorem RdAt.below {w w' : World} {rb : Nat} {p r : By} (h : RdAt w rb p r) (x : Below w.heap.size w w') : RdAt w' rb p r := (x.block rb (lt_of_block h)).trans h
theorem RdAt.kept {F : Nat → Prop} {w w' : World} {rb : Nat} {p r : By} (h : RdAt w rb p r) (x : Kept F w w') (hF : ¬ F rb) : RdAt w' rb p r := (x.block rb (lt_of_block h) hF).trans h
theorem RdAt.c0 {w : World} {rb : Nat} {p r : By} (h : RdAt w rb p r) : w.cell? ⟨rb, 0, none⟩ = some (.string ⟨(p ++ r).toArray⟩) := by rw [cell_of_row w rb 0 _ _ _ h]; rfl
theorem RdAt.c1 {w : World} {rb : Nat} {p r : By} (h : RdAt w rb p r) : w.cell? ⟨rb, 1, none⟩ = some (.int .i64 (p.length : Nat)) := by rw [cell_of_row w rb 1 _ _ _ h]; rfl
theorem ext_r (p r : By) : (⟨(p ++ r).toArray⟩ : ByteArray).extract p.length (p.length + r.length) = ⟨r.toArray⟩ := by
  apply ByteArray.ext
  simp
set_option maxRecDepth 100000 in
set_option maxHeartbeats 2000000 in
theorem skip_any (rb : Nat) (p q r : By) (w : World) (hl : (p ++ r).length ≤ 140737488351232) (hq : q.length ≤ 8) (h : RdAt w rb p r) :
    Calls Tryz.prog 91 #[.pointer (some ⟨rb, 0, none⟩), .string ⟨q.toArray⟩] w fun e w' => e = .returned (.bool (q.isPrefixOf r)) ∧ (q.isPrefixOf r = true → RdAt w' rb (p ++ q) (r.drop q.length)) ∧ (q.isPrefixOf r = false → RdAt w' rb p r) ∧ Kept (fun k => k = rb) w w' := by
  have c0 := h.c0
  have c1 := h.c1
  have f1 := frozen_of_row w rb 1 _ _ h
  have hb := lt_of_block h
  have HH := hide h
  have e1 := ext_r p r
  rw [← List.length_append] at e1
  have z1 : (p.length : Int) ≤ ((p ++ r).length : Int) := by rw [List.length_append]; omega
  have HP := hide (fun w => hasPre_any r q w)
  have w1 : IntKind.i64.wrap ((p.length : Int) + (q.length : Int)) = (p.length : Int) + (q.length : Int) := by rw [List.length_append] at hl; simp [IntKind.wrap, IntKind.bits, IntKind.signed]; omega
  clear h
  obtain ⟨s, HS⟩ : ∃ s, Hid (s = p ++ r) := ⟨_, rfl⟩
  rw [← HS.out] at c0 e1 z1 hl
  cases hpq : q.isPrefixOf r with
  | true =>
    rw [hpq] at HP
    have HR : Hid (q ++ r.drop q.length = r) := by
      obtain ⟨r', rfl⟩ := List.isPrefixOf_iff_prefix.1 hpq
      simp [Hid]
    clear hpq
    go_enter Tryz.func91, Tryz.ntmps91
    go_wp2
    go_region_held3 (fun w' => w'.cell? ⟨rb, 0, none⟩ = some (.string ⟨s.toArray⟩) ∧ w'.cell? ⟨rb, 1, none⟩ = some (.int .i64 (p.length : Nat))) (first | assumption | (simp [go_sem, *]; done))
      (first | (go_at_call 124; refine (HP.out _).mono ?_; rintro e w2 ⟨rfl, hw2⟩; subst hw2))
    go_wp2
    go_ret
    refine ⟨rfl, fun _ => ?_, fun h => (by cases h), by refine Kept.drew (Kept.setCell (F := fun k => k = rb) (a := w) (p := ⟨rb, 1, none⟩) ?_ rfl _); exact ⟨rfl, rfl, rfl, Nat.le_refl _, fun _ _ _ => rfl⟩⟩
    refine (block_setCell (cs := #[.string ⟨(p ++ r).toArray⟩, .int .i64 (p.length : Nat)]) HH.out 1 _).trans ?_
    rw [List.append_assoc, HR.out, List.length_append, Int.natCast_add]
    rfl
  | false =>
    rw [hpq] at HP
    clear hpq
    go_enter Tryz.func91, Tryz.ntmps91
    go_wp2
    go_region_held3 (fun w' => w'.cell? ⟨rb, 0, none⟩ = some (.string ⟨s.toArray⟩) ∧ w'.cell? ⟨rb, 1, none⟩ = some (.int .i64 (p.length : Nat))) (first | assumption | (simp [go_sem, *]; done))
      (first | (go_at_call 124; refine (HP.out _).mono ?_; rintro e w2 ⟨rfl, hw2⟩; subst hw2))
    go_wp2
    go_ret
    exact ⟨rfl, fun h => (by cases h), fun _ => HH.out, ⟨rfl, rfl, rfl, Nat.le_refl _, fun _ _ _ => rfl⟩⟩
theorem idx_str (l : By) (k : Nat) (hk : k < l.length) : ((⟨l.toArray⟩ : ByteArray)[k]'hk) = l[k] := by rfl
set_option maxRecDepth 100000 in
set_option maxHeartbeats 2000000 in
theorem take_end (rb : Nat) (p : By) (least : Int) (w : World) (h : RdAt w rb p []) :
    Calls Tryz.prog 93 #[.pointer (some ⟨rb, 0, none⟩), .int .i64 least] w fun e w' => e = .returned (.tuple #[.int .i64 0, .bool false]) ∧ RdAt w' rb p [] ∧ Kept (fun k => k = rb) w w' := by
  have c0 := h.c0
  have c1 := h.c1
  rw [List.append_nil] at c0
  have HH := hide h
  clear h
  go_enter Tryz.func93, Tryz.ntmps93
  go_wp2
  go_quiet (fail)
  go_wp2
  go_ret2
  exact ⟨rfl, HH.out, ⟨rfl, rfl, rfl, Nat.le_refl _, fun _ _ _ => rfl⟩⟩
set_option maxRecDepth 100000 in
set_option maxHeartbeats 2000000 in
theorem take_any (rb : Nat) (p r : By) (c : UInt8) (least : Int) (w : World) (hl : (p ++ c :: r).length ≤ 140737488351232) (h : RdAt w rb p (c :: r)) :
    Calls Tryz.prog 93 #[.pointer (some ⟨rb, 0, none⟩), .int .i64 least] w fun e w' => ((least ≤ (c.toNat : Int) ∧ c.toNat ≤ 126 ∧ e = .returned (.tuple #[.int .i64 (c.toNat : Nat), .bool true]) ∧ RdAt w' rb (p ++ [c]) r) ∨ (¬ (least ≤ (c.toNat : Int) ∧ c.toNat ≤ 126) ∧ e = .returned (.tuple #[.int .i64 0, .bool false]) ∧ RdAt w' rb p (c :: r))) ∧ Kept (fun k => k = rb) w w' := by
  have c0 := h.c0
  have c1 := h.c1
  have f1 := frozen_of_row w rb 1 _ _ h
  have HH := hide h
  have hpl : p.length < (p ++ c :: r).length := by rw [List.length_append, List.length_cons]; omega
  have z1 : (p.length : Int) < ((p ++ c :: r).length : Int) := by omega
  have z2 : ¬ (p.length : Int) = ((p ++ c :: r).length : Int) := by omega
  have hg : (⟨(p ++ c :: r).toArray⟩ : ByteArray)[p.length]'hpl = c := by rw [idx_str]; simp
  have w1 : IntKind.i64.wrap ((p.length : Int) + 1) = (p.length : Int) + 1 := by simp [IntKind.wrap, IntKind.bits, IntKind.signed]; omega
  have w2 : IntKind.i64.wrap (c.toNat : Int) = (c.toNat : Int) := by have := c.toNat_lt; simp [IntKind.wrap, IntKind.bits, IntKind.signed]; omega
  clear h
  obtain ⟨s, HS⟩ : ∃ s, Hid (s = p ++ c :: r) := ⟨_, rfl⟩
  have hg' : ∀ hk, (⟨s.toArray⟩ : ByteArray)[p.length]'hk = c := by rw [HS.out]; exact fun _ => hg
  clear hg
  rw [← HS.out] at c0 z1 z2 hl hpl
  by_cases h1 : (c.toNat : Int) < least
  · go_enter Tryz.func93, Tryz.ntmps93
    go_wp2
    go_quiet (fail)
    go_wp2
    go_quiet (fail)
    go_wp2
    go_ret2
    exact ⟨.inr ⟨fun h => (by omega), rfl, HH.out⟩, ⟨rfl, rfl, rfl, Nat.le_refl _, fun _ _ _ => rfl⟩⟩
  · by_cases h2 : (126 : Int) < (c.toNat : Int)
    · go_enter Tryz.func93, Tryz.ntmps93
      go_wp2
      go_quiet (fail)
      go_wp2
      go_quiet (fail)
      go_wp2
      go_ret2
      exact ⟨.inr ⟨fun h => (by omega), rfl, HH.out⟩, ⟨rfl, rfl, rfl, Nat.le_refl _, fun _ _ _ => rfl⟩⟩
    · go_enter Tryz.func93, Tryz.ntmps93
      go_wp2
      go_quiet (fail)
      go_wp2
      go_quiet (fail)
      go_wp2
      go_ret2
      refine ⟨.inl ⟨by omega, by omega, rfl, ?_⟩, by refine Kept.setCell (F := fun k => k = rb) (a := w) (p := ⟨rb, 1, none⟩) ?_ rfl _; exact ⟨rfl, rfl, rfl, Nat.le_refl _, fun _ _ _ => rfl⟩⟩
      refine (block_setCell (cs := #[.string ⟨(p ++ c :: r).toArray⟩, .int .i64 (p.length : Nat)]) HH.out 1 _).trans ?_
      rw [List.append_assoc, List.length_append, Int.natCast_add]
      rfl
end Go.Proofs.YtdgoilkgplnhfaaGreat
