/-
  Looks numbered as they first occur, in a map and two rows of numbers. Of the program its types alone: no condition.
-/
import Derived.Test.YtdgoilkgplnhfaaGreatB14
import Derived.Test.YtdgoilkgplnhfaaGreatB15
import Derived.Maps.OwnSet
import Derived.Maps.Views
import Derived.Maps.Keyed
import Derived.Test.YtdgoilkgplnhfaaGreatB03
namespace Go.Proofs.YtdgoilkgplnhfaaGreat
open Go.RowKit Go.Lib Go.Maps

/-- Numbers in a row of their own. -/
def nCells (L : List Nat) : List Value := L.map fun (n : Nat) => Value.int .i64 (n : Int)
def OwnN (w : World) (base : Nat) (v : Value) (L : List Nat) : Prop := w.ownsRow base 3 1 v L.length (nCells L)
theorem nCells_snoc (L : List Nat) (n : Nat) : nCells (L ++ [n]) = nCells L ++ [.int .i64 (n : Int)] := by simp [nCells]
theorem nCells_length (L : List Nat) : (nCells L).length = L.length := by simp [nCells]
theorem nCells_get (L : List Nat) (i : Nat) (h : i < L.length) : (nCells L)[i]? = some (.int .i64 (L[i] : Int)) := by simp [nCells, h]
theorem OwnN.nil (w : World) (base : Nat) : OwnN w base (.slice none 0 0) [] := World.ownsRow_nil w base 3 1
theorem made_nums (n : Nat) : (madeCells (Value.int .i64 0).cells (n * 1)).toList = nCells (List.replicate n 0) := by
  unfold nCells
  simp only [madeCells, Value.cells, List.map_replicate, Nat.mul_one]
  rw [List.eq_replicate_iff]
  refine ⟨by simp, fun b hb => ?_⟩
  simp only [Array.toList_map, List.mem_map] at hb
  obtain ⟨x, _, rfl⟩ := hb
  simp [Nat.mod_one]
theorem Tryz.info3n : (Tryz.prog.info? 3).map (fun i => (i.zero, i.size, i.bytes)) = some (some (.int .i64 0), 1, 8) := by kernel_rfl
theorem OwnN.cell {w : World} {base g cap : Nat} {L : List Nat} {n : Nat} (h : OwnN w base (.slice (some ⟨g, 0, none⟩) n cap) L) {i : Nat} (hi : i < L.length) : w.cell? ⟨g, i, none⟩ = some (.int .i64 (L[i] : Int)) := by
  have hh : w.ownsRow base 3 1 (.slice (some ⟨g, 0, none⟩) n cap) L.length (nCells L) := h
  have hn : n = L.length := by
    rcases hh.2 with ⟨e, e2⟩ | ⟨g', c', cur, e, _⟩
    · cases e
    · injection e with _ e2 _
  subst hn
  rw [hh.cellAt i (by omega), nCells_get L i hi]
theorem nCells_set (L : List Nat) (i n : Nat) : (nCells L).set i (.int .i64 (n : Int)) = nCells (L.set i n) := by simp [nCells, List.map_set]
/-- A number stored. -/
theorem OwnN.store {w : World} {base g cap n : Nat} {L : List Nat} (h : OwnN w base (.slice (some ⟨g, 0, none⟩) n cap) L) (i x : Nat) : OwnN (w.setCell ⟨g, i, none⟩ (.int .i64 (x : Int))) base (.slice (some ⟨g, 0, none⟩) n cap) (L.set i x) ∧ Kept (fun k => k = g) w (w.setCell ⟨g, i, none⟩ (.int .i64 (x : Int))) := by
  have hh : w.ownsRow base 3 1 (.slice (some ⟨g, 0, none⟩) n cap) L.length (nCells L) := h
  have hn : n = L.length := by
    rcases hh.2 with ⟨e, e2⟩ | ⟨g', c', cur, e, _⟩
    · cases e
    · injection e with _ e2 _
  subst hn
  obtain ⟨h1, h2⟩ := hh.stored i (.int .i64 (x : Int))
  refine ⟨?_, (kept_of_grown h2).mono (fun k hk => by injection hk with hk; exact hk.symm)⟩
  unfold OwnN
  rw [List.length_set, ← nCells_set]
  exact h1
/-- A map from keys to their places. -/
def MpAt (k : TypeId) (w : World) (b : Nat) (ks : List Lit) : Prop := ∃ D : DataW Unit, w.ownsMap Tryz.prog k (plainElem Tryz.prog 3) b ks.length D ∧ (∀ kl, Maps.has D kl = true ↔ kl ∈ ks) ∧ ∀ i (h : i < ks.length), D.atKey ks[i] (.lit (.int .i64 0)) = .lit (.int .i64 (i : Int))
theorem MpAt.congr {k : TypeId} {w w' : World} {b : Nat} {ks : List Lit} (h : MpAt k w b ks) (e : w'.heap[b]? = w.heap[b]?) : MpAt k w' b ks := by
  obtain ⟨D, ⟨es, cl, h1, h2⟩, h3⟩ := h
  exact ⟨D, ⟨es, cl, e.trans h1, h2⟩, h3⟩
theorem MpAt.blk {k : TypeId} {w : World} {b : Nat} {ks : List Lit} (h : MpAt k w b ks) : ∃ es cl, w.heap[b]? = some (.map es cl) := by
  obtain ⟨D, ⟨es, cl, h1, h2⟩, h3⟩ := h
  exact ⟨es, cl, h1⟩
theorem MpAt.lt {k : TypeId} {w : World} {b : Nat} {ks : List Lit} (h : MpAt k w b ks) : b < w.heap.size := by
  obtain ⟨D, h1, _⟩ := h
  exact h1.lt
theorem MpAt.made (k : TypeId) (w : World) : MpAt k (w.alloc (.map #[] 0)) w.heap.size [] :=
  ⟨.map [], World.ownsMap_made w Tryz.prog k _, fun kl => by simp [Maps.has_eq], fun i h => by cases h⟩
theorem MpAt.below {k : TypeId} {w w' : World} {b : Nat} {ks : List Lit} (h : MpAt k w b ks) (x : Below w.heap.size w w') : MpAt k w' b ks := h.congr (x.block b h.lt)
theorem MpAt.kept {k : TypeId} {F : Nat → Prop} {w w' : World} {b : Nat} {ks : List Lit} (h : MpAt k w b ks) (x : Kept F w w') (hF : ¬ F b) : MpAt k w' b ks := h.congr (x.block b h.lt hF)
theorem own_ne_map {k : TypeId} {w : World} {b base size n : Nat} {e : TypeId} {v : Value} {xs : List Value} {ks : List Lit} (h : MpAt k w b ks) (ho : w.ownsRow base e size v n xs) : ¬ v.ownBlock = some b := fun hf => by
  obtain ⟨es, cl, h1⟩ := h.blk
  obtain ⟨cs, h2⟩ := own_ty ho b hf
  rw [h1] at h2
  cases h2
/-- What a map says of a key that it has. -/
theorem atKey_lit {D : DataW Unit} {ks : List Lit} (h : ∀ i (h : i < ks.length), D.atKey ks[i] (.lit (.int .i64 0)) = .lit (.int .i64 (i : Int))) {kl : Lit} {c : Int} (hc : D.atKey kl (.lit (.int .i64 0)) = .lit (.int .i64 c)) (hm : kl ∈ ks) : ∃ i, ∃ h : i < ks.length, ks[i] = kl ∧ c = (i : Int) := by
  obtain ⟨i, hi, e⟩ := List.mem_iff_getElem.1 hm
  refine ⟨i, hi, e, ?_⟩
  have := h i hi
  rw [e, hc] at this
  injection this with this
  injection this with _ this
/-- One key more. -/
theorem MpAt.put {k : TypeId} {w' : World} {b : Nat} {ks : List Lit} {kl : Lit} {D : DataW Unit} (hk : WideAt.IsKeyLit kl) (hn : kl ∉ ks) (hm : IsMap D) (hh : ∀ kl, Maps.has D kl = true ↔ kl ∈ ks) (ha : ∀ i (h : i < ks.length), D.atKey ks[i] (.lit (.int .i64 0)) = .lit (.int .i64 (i : Int)))
    (h1 : w'.ownsMap Tryz.prog k (plainElem Tryz.prog 3) b (ks.length + 1) (D.put kl (.lit (.int .i64 (ks.length : Int))))) : MpAt k w' b (ks ++ [kl]) := by
  refine ⟨D.put kl (.lit (.int .i64 (ks.length : Int))), by rw [List.length_append]; exact h1, fun x => ?_, fun i hi => ?_⟩
  · by_cases hx : x = kl
    · subst hx
      rw [Maps.has_put_same hm hk]
      simp
    · rw [Maps.has_put_other hx, hh x]
      simp [hx]
  · by_cases hi2 : i < ks.length
    · rw [List.getElem_append_left hi2, Maps.atKey_put_other (fun e => hn (by rw [← e]; exact List.getElem_mem hi2))]
      exact ha i hi2
    · have : i = ks.length := by rw [List.length_append, List.length_singleton] at hi; omega
      subst this
      rw [List.getElem_append_right (Nat.le_refl _)]
      simp only [Nat.sub_self, List.getElem_cons_zero]
      exact Maps.atKey_put_same hm hk _ _
/-- The i-th element. -/
def gN (L : List Nat) (i : Nat) : Nat := L.getD i 0
theorem gN_lt {L : List Nat} {i : Nat} (h : i < L.length) : gN L i = L[i] := by simp [gN, List.getD_eq_getElem?_getD, h]
theorem gN_left {L : List Nat} {x i : Nat} (h : i < L.length) : gN (L ++ [x]) i = gN L i := by simp [gN, List.getD_eq_getElem?_getD, List.getElem?_append, h]
theorem gN_last (L : List Nat) (x : Nat) : gN (L ++ [x]) L.length = x := by simp [gN, List.getD_eq_getElem?_getD]
section
variable {α : Type} {look : Nat → α} {num fst : List Nat}
theorem NumF.nil : NumF look 0 (gN []) (gN []) 0 := ⟨fun i h => by omega, fun i h => by omega, fun i h => by omega, fun i h => by omega, fun i h => by omega, fun i l _ h => by omega⟩
theorem NumF.hit (h : NumF look num.length (gN num) (gN fst) fst.length) {n : Nat} (hn : n < fst.length) (he : look (gN fst n) = look num.length) : NumF look (num.length + 1) (gN (num ++ [n])) (gN fst) fst.length := by
  have e : ∀ i, i < num.length → gN (num ++ [n]) i = gN num i := fun i hi => gN_left hi
  have hf : ∀ k, k < fst.length → gN fst k < num.length := h.fstlt
  refine ⟨fun i hi => ?_, fun i hi => ?_, fun k hk => by have := hf k hk; omega, fun k hk => by rw [e _ (hf k hk)]; exact h.numfst k hk, h.first, h.inc⟩
  · by_cases h2 : i < num.length
    · rw [e i h2]; exact h.numlt i h2
    · obtain rfl : i = num.length := by omega
      rw [gN_last]; exact hn
  · by_cases h2 : i < num.length
    · rw [e i h2]; exact h.lk i h2
    · obtain rfl : i = num.length := by omega
      rw [gN_last]; exact he
theorem NumF.miss (h : NumF look num.length (gN num) (gN fst) fst.length) (hne : ∀ k, k < fst.length → look (gN fst k) ≠ look num.length) : NumF look (num.length + 1) (gN (num ++ [fst.length])) (gN (fst ++ [num.length])) (fst.length + 1) := by
  have e : ∀ i, i < num.length → gN (num ++ [fst.length]) i = gN num i := fun i hi => gN_left hi
  have e2 : ∀ k, k < fst.length → gN (fst ++ [num.length]) k = gN fst k := fun i hi => gN_left hi
  have hf : ∀ k, k < fst.length → gN fst k < num.length := h.fstlt
  have hne2 : ∀ i, i < num.length → look i ≠ look num.length := fun i hi he => hne _ (h.numlt i hi) ((h.lk i hi).trans he)
  refine ⟨fun i hi => ?_, fun i hi => ?_, fun k hk => ?_, fun k hk => ?_, fun k hk i hi => ?_, fun k l hkl hl => ?_⟩
  · by_cases h2 : i < num.length
    · rw [e i h2]; have := h.numlt i h2; omega
    · obtain rfl : i = num.length := by omega
      rw [gN_last]; omega
  · by_cases h2 : i < num.length
    · rw [e i h2, e2 _ (h.numlt i h2)]; exact h.lk i h2
    · obtain rfl : i = num.length := by omega
      rw [gN_last, gN_last]
  · by_cases h2 : k < fst.length
    · rw [e2 k h2]; have := hf k h2; omega
    · obtain rfl : k = fst.length := by omega
      rw [gN_last]; omega
  · by_cases h2 : k < fst.length
    · rw [e2 k h2, e _ (hf k h2)]; exact h.numfst k h2
    · obtain rfl : k = fst.length := by omega
      rw [gN_last, gN_last]
  · by_cases h2 : k < fst.length
    · rw [e2 k h2] at hi ⊢; exact h.first k h2 i hi
    · obtain rfl : k = fst.length := by omega
      rw [gN_last] at hi ⊢; exact hne2 i hi
  · by_cases h2 : l < fst.length
    · rw [e2 l h2, e2 k (by omega)]; exact h.inc k l hkl h2
    · obtain rfl : l = fst.length := by omega
      rw [gN_last, e2 k (by omega)]; exact hf k (by omega)
end
/-- What stands while things are numbered. -/
structure NmS (k : TypeId) (w0 : World) (lit : Nat → Lit) (N mb : Nat) (v1 v2 : Value) (num fst : List Nat) (w : World) : Prop where
  map : MpAt k w mb (fst.map lit)
  o1 : OwnN w w0.heap.size v1 (num ++ List.replicate (N - num.length) 0)
  o2 : OwnN w w0.heap.size v2 fst
  ap : ∀ b, v1.ownBlock = some b → ¬ v2.ownBlock = some b
  mge : w0.heap.size ≤ mb
  nf : NumF lit num.length (gN num) (gN fst) fst.length
  le : num.length ≤ N
  bel : Below w0.heap.size w0 w
  v2ne : ∀ b, v2.ownBlock = some b → ¬ b = mb
section
variable {k : TypeId} {w0 w w' : World} {lit : Nat → Lit} {N mb : Nat} {v1 v2 : Value} {num fst : List Nat}
theorem NmS.below (h : NmS k w0 lit N mb v1 v2 num fst w) (x : Below w.heap.size w w') : NmS k w0 lit N mb v1 v2 num fst w' :=
  ⟨h.map.below x, own_below h.o1 x, own_below h.o2 x, h.ap, h.mge, h.nf, h.le, h.bel.trans (x.mono h.bel.size), h.v2ne⟩
/-- The number of the next thing, stored. -/
theorem set_next (num : List Nat) {N x : Nat} (h : num.length < N) : (num ++ List.replicate (N - num.length) 0).set num.length x = (num ++ [x]) ++ List.replicate (N - (num ++ [x]).length) 0 := by
  rw [List.set_append_right _ _ (Nat.le_refl _), Nat.sub_self, List.length_append, List.length_singleton, List.append_assoc]
  obtain ⟨m, hm⟩ : ∃ m, N - num.length = m + 1 := ⟨N - num.length - 1, by omega⟩
  rw [hm, show N - (num.length + 1) = m by omega]
  rfl
theorem NmS.len {g cap n : Nat} (h : NmS k w0 lit N mb (.slice (some ⟨g, 0, none⟩) n cap) v2 num fst w) : n = N := by
  have hh : w.ownsRow w0.heap.size 3 1 (.slice (some ⟨g, 0, none⟩) n cap) _ (nCells (num ++ List.replicate (N - num.length) 0)) := h.o1
  have hle := h.le
  rcases hh.2 with ⟨e, e2⟩ | ⟨g', c', cur, e, _⟩
  · cases e
  · injection e with _ e2 _
    rw [e2, List.length_append, List.length_replicate]
    omega
end
end Go.Proofs.YtdgoilkgplnhfaaGreat
/-
  An automaton as it lies in memory; its width, a step of it. Condition: lists no longer than a process can hold.
-/
namespace Go.Proofs.YtdgoilkgplnhfaaGreat
open Go.RowKit Go.Lib

/-- Numbers as they lie in memory. -/
def NAt (w : World) (ao : Option Addr) (L : List Nat) : Prop := L = [] ∨ ∃ b off, ao = some ⟨b, off, none⟩ ∧ b < w.heap.size ∧ ∀ i (h : i < L.length), w.cell? ⟨b, off + i, none⟩ = some (.int .i64 (L[i] : Int))
theorem NAt.below {w w' : World} {ao : Option Addr} {L : List Nat} (h : NAt w ao L) (hb : Below w.heap.size w w') : NAt w' ao L := by
  rcases h with h | ⟨b, off, h1, h2, h3⟩
  · exact .inl h
  · exact .inr ⟨b, off, h1, Nat.lt_of_lt_of_le h2 hb.size, fun i hi => (hb.cell (p := ⟨b, off + i, none⟩) h2).trans (h3 i hi)⟩
theorem NAt.get {w : World} {ao : Option Addr} {L : List Nat} (h : NAt w ao L) {i : Nat} (hi : i < L.length) : ∃ b off, ao = some ⟨b, off, none⟩ ∧ b < w.heap.size ∧ w.cell? ⟨b, off + i, none⟩ = some (.int .i64 (L[i] : Int)) := by
  rcases h with h | ⟨b, off, h1, h2, h3⟩
  · rw [h] at hi; cases hi
  · exact ⟨b, off, h1, h2, h3 i hi⟩
theorem OwnN.at {w : World} {base : Nat} {v : Value} {L : List Nat} (h : OwnN w base v L) : ∃ ao cap, v = .slice ao L.length cap ∧ NAt w ao L := by
  have hh : w.ownsRow base 3 1 v L.length (nCells L) := h
  rcases hh.2 with ⟨rfl, hn⟩ | ⟨g, cap, cur, rfl, hb, hg, r⟩
  · exact ⟨none, 0, by rw [hn], .inl (List.eq_nil_of_length_eq_zero hn)⟩
  · refine ⟨_, cap, rfl, .inr ⟨g, 0, rfl, lt_of_block hg, fun i hi => ?_⟩⟩
    have := h.cell hi
    simpa using this
/-- An automaton's value. -/
def auV (bs : By) (na : Option Addr) (nl nc : Nat) (oa : Option Addr) (ol oc : Nat) : Value := .agg #[.string ⟨bs.toArray⟩, .slice na nl nc, .slice oa ol oc]
set_option maxRecDepth 100000 in
theorem width_any (bs : By) (na oa : Option Addr) (nl nc ol oc : Nat) (w : World) (hn : nl ≤ 140737488351232) (ho : 0 < ol) :
    Calls Tryz.prog 94 #[auV bs na nl nc oa ol oc] w fun e w' => e = .returned (.int .i64 ((nl / ol : Nat) : Int)) ∧ Below w.heap.size w w' := by
  have hq : (nl : Int).tdiv (ol : Int) = ((nl / ol : Nat) : Int) := by rw [Int.tdiv_eq_ediv_of_nonneg (by omega)]; rfl
  have hle : nl / ol ≤ nl := Nat.div_le_self _ _
  generalize nl / ol = m at *
  have hw : IntKind.i64.wrap (m : Int) = (m : Int) := by simp [IntKind.wrap, IntKind.bits, IntKind.signed]; omega
  have h0 : ¬ (ol : Int) = 0 := by omega
  have X := hide (al (Below.refl w.heap.size w) (.cells #[.string ⟨bs.toArray⟩, .slice na nl nc, .slice oa ol oc] 24))
  unfold auV
  go_enter Tryz.func94, Tryz.ntmps94
  go_wp2
  go_ret
  exact ⟨rfl, X.out⟩
theorem w64_n (n : Nat) (h : n ≤ 9223372036854775807) : IntKind.i64.wrap (n : Int) = (n : Int) := by simp [IntKind.wrap, IntKind.bits, IntKind.signed]; omega
set_option maxRecDepth 100000 in
set_option maxHeartbeats 2000000 in
theorem step_any (bs : By) (na oa : Option Addr) (nc oc ol s b W c : Nat) (NX : List Nat) (w : World) (hn : NX.length ≤ 140737488351232) (ho : 0 < ol) (hW : NX.length / ol = W) (hb : b < bs.length) (hc : (bs[b]).toNat = c) (hi : s * W + c < NX.length) (hat : NAt w na NX) :
    Calls Tryz.prog 58 #[auV bs na NX.length nc oa ol oc, .int .i64 (s : Nat), .int .i64 (b : Nat)] w fun e w' => e = .returned (.int .i64 ((NX[s * W + c] : Nat) : Int)) ∧ Below w.heap.size w w' := by
  obtain ⟨nb, off, rfl, hnb, cx⟩ := hat.get hi
  generalize NX[s * W + c] = r at *
  have hwd := fun W' => width_any bs (some ⟨nb, off, none⟩) oa NX.length nc ol oc W' hn ho
  rw [hW] at hwd
  have hsW : s * W ≤ 140737488351232 := by omega
  have hbt : c < 256 := by rw [← hc]; exact (bs[b]).toNat_lt
  obtain ⟨y, hy⟩ : ∃ y, bs[b] = y := ⟨_, rfl⟩
  have hg : ∀ hk, (⟨bs.toArray⟩ : ByteArray)[b]'hk = y := fun _ => hy
  have f2 : IntKind.i64.wrap ((y.toNat : Nat) : Int) = (c : Int) := by rw [← hy, hc]; exact w64_n _ (by omega)
  clear hc hy
  have f1 : IntKind.i64.wrap ((s : Int) * (W : Int)) = ((s * W : Nat) : Int) := by rw [show (s : Int) * (W : Int) = ((s * W : Nat) : Int) by simp]; exact w64_n _ (by omega)
  generalize hm : s * W = m at *
  have f3 : IntKind.i64.wrap ((m : Int) + (c : Int)) = ((m + c : Nat) : Int) := by rw [show (m : Int) + (c : Int) = ((m + c : Nat) : Int) by simp]; exact w64_n _ (by omega)
  have hlb : (b : Int) < (bs.length : Int) := by omega
  have hln : (m : Int) + (c : Int) < (NX.length : Int) := by omega
  have hlz : (0 : Int) ≤ (m : Int) + (c : Int) := by omega
  have hlt : ((m : Int) + (c : Int)).toNat = m + c := by omega
  have X1 := hide (al (Below.refl w.heap.size w) (.cells #[.string ⟨bs.toArray⟩, .slice (some ⟨nb, off, none⟩) NX.length nc, .slice oa ol oc] 24))
  have B1 := heap_alloc_new w (.cells #[.string ⟨bs.toArray⟩, .slice (some ⟨nb, off, none⟩) NX.length nc, .slice oa ol oc] 24)
  have c0 : (w.alloc (.cells #[.string ⟨bs.toArray⟩, .slice (some ⟨nb, off, none⟩) NX.length nc, .slice oa ol oc] 24)).cell? ⟨w.heap.size, 0, none⟩ = some (.string ⟨bs.toArray⟩) := by rw [cell_of_row _ _ _ _ _ _ B1]; rfl
  have c1 : (w.alloc (.cells #[.string ⟨bs.toArray⟩, .slice (some ⟨nb, off, none⟩) NX.length nc, .slice oa ol oc] 24)).cell? ⟨w.heap.size, 1, none⟩ = some (.slice (some ⟨nb, off, none⟩) NX.length nc) := by rw [cell_of_row _ _ _ _ _ _ B1]; rfl
  have c2 : (w.alloc (.cells #[.string ⟨bs.toArray⟩, .slice (some ⟨nb, off, none⟩) NX.length nc, .slice oa ol oc] 24)).cell? ⟨w.heap.size, 2, none⟩ = some (.slice oa ol oc) := by rw [cell_of_row _ _ _ _ _ _ B1]; rfl
  have c3 := (X1.out.cell (p := ⟨nb, off + (m + c), none⟩) hnb).trans cx
  have hl1 := lt_of_block B1
  have hl2 : nb < (w.alloc (.cells #[.string ⟨bs.toArray⟩, .slice (some ⟨nb, off, none⟩) NX.length nc, .slice oa ol oc] 24)).heap.size := Nat.lt_of_lt_of_le hnb X1.out.size
  clear cx B1
  unfold auV
  go_enter Tryz.func58, Tryz.ntmps58
  go_wp2
  generalize w.alloc (.cells #[.string ⟨bs.toArray⟩, .slice (some ⟨nb, off, none⟩) NX.length nc, .slice oa ol oc] 24) = w1 at *
  have HDr : Hid (Below w1.heap.size w1 w1.drew) := (Below.refl _ _).drew
  refine wp_region_quiet (C := fun w' => Below w1.heap.size w1 w') (by kernel_rfl) (by kernel_rfl) HDr.out ?_
  refine QW.out (l := _ :: _) ?_
  iterate 4 (refine QW.take (by rfl) ?_; apply Exists.intro; refine ⟨fun w' hw' => ?_, ?_⟩; (· (have g0 := (hw'.cell (p := ⟨w.heap.size, 0, none⟩) hl1).trans c0; have g1 := (hw'.cell (p := ⟨w.heap.size, 1, none⟩) hl1).trans c1; have g2 := (hw'.cell (p := ⟨w.heap.size, 2, none⟩) hl1).trans c2; have g3 := (hw'.cell (p := ⟨nb, off + (m + c), none⟩) hl2).trans c3; go_simp; first | done | (first | done | rfl))); try simp only [Act.put, List.setIfInBounds_toArray, List.set_cons_zero, List.set_cons_succ])
  iterate 1 (refine QW.take (by rfl) ?_; apply Exists.intro; refine ⟨fun w' hw' => ?_, ?_⟩; (· (have g0 := (hw'.cell (p := ⟨w.heap.size, 0, none⟩) hl1).trans c0; have g1 := (hw'.cell (p := ⟨w.heap.size, 1, none⟩) hl1).trans c1; have g2 := (hw'.cell (p := ⟨w.heap.size, 2, none⟩) hl1).trans c2; have g3 := (hw'.cell (p := ⟨nb, off + (m + c), none⟩) hl2).trans c3; go_simp; (refine (hwd _).mono ?_; rintro e w2 ⟨rfl, x2⟩; exact ⟨rfl, hw'.trans (x2.mono hw'.size)⟩))); try simp only [Act.put, List.setIfInBounds_toArray, List.set_cons_zero, List.set_cons_succ])
  iterate 10 (refine QW.take (by rfl) ?_; apply Exists.intro; refine ⟨fun w' hw' => ?_, ?_⟩; (· (have g0 := (hw'.cell (p := ⟨w.heap.size, 0, none⟩) hl1).trans c0; have g1 := (hw'.cell (p := ⟨w.heap.size, 1, none⟩) hl1).trans c1; have g2 := (hw'.cell (p := ⟨w.heap.size, 2, none⟩) hl1).trans c2; have g3 := (hw'.cell (p := ⟨nb, off + (m + c), none⟩) hl2).trans c3; go_simp; first | done | (first | done | rfl))); try simp only [Act.put, List.setIfInBounds_toArray, List.set_cons_zero, List.set_cons_succ])
  refine QW.nil ?_
  intro w7 x7
  have X7 := hide (bt X1.out x7 (Nat.le_refl _))
  clear x7 c0 c1 c2 c3
  go_wp2
  go_ret
  exact ⟨rfl, X7.out⟩
end Go.Proofs.YtdgoilkgplnhfaaGreat
/-
  Several rows of numbers, each in a block of its own. Of the program its types alone: no condition.
-/
namespace Go.Proofs.YtdgoilkgplnhfaaGreat
open Go.RowKit Go.Lib

abbrev RN := Value × List Nat
/-- Rows of numbers, apart. -/
structure Rws (w : World) (base : Nat) (R : List RN) : Prop where
  own : ∀ j (h : j < R.length), OwnN w base (R[j]).1 (R[j]).2
  ap : ∀ j (h : j < R.length) k (h' : k < R.length), j ≠ k → ∀ b, (R[j]).1.ownBlock = some b → ¬ (R[k]).1.ownBlock = some b
section
variable {w w' : World} {base : Nat} {R : List RN}
theorem Rws.below (h : Rws w base R) (x : Below w.heap.size w w') : Rws w' base R := ⟨fun j hj => own_below (h.own j hj) x, h.ap⟩
theorem Rws.kept {F : Nat → Prop} (h : Rws w base R) (x : Kept F w w') (hF : ∀ j (h : j < R.length) b, (R[j]).1.ownBlock = some b → ¬ F b) : Rws w' base R := ⟨fun j hj => own_kept (h.own j hj) x (hF j hj), h.ap⟩
theorem Rws.upd {F : Nat → Prop} (h : Rws w base R) {i : Nat} (hi : i < R.length) {v' : Value} {L' : List Nat} (h1 : OwnN w' base v' L') (hk : Kept F w w') (hF : ∀ b, F b → (R[i]).1.ownBlock = some b) (hv : ∀ b, v'.ownBlock = some b → (R[i]).1.ownBlock = some b ∨ w.heap.size ≤ b) : Rws w' base (R.set i (v', L')) := by
  refine ⟨fun j hj => ?_, fun j hj k hk' hne b hb hb2 => ?_⟩
  · rw [List.length_set] at hj
    by_cases hji : i = j
    · subst hji
      rw [List.getElem_set_self]
      exact h1
    · rw [List.getElem_set_ne hji]
      exact own_kept (h.own j hj) hk (fun b hb hf => h.ap j hj i hi (fun e => hji e.symm) b hb (hF b hf))
  · rw [List.length_set] at hj hk'
    have hlt : ∀ m (hm : m < R.length) b, (R[m]).1.ownBlock = some b → b < w.heap.size := fun m hm b hb => (World.ownsRow.lt (show w.ownsRow base 3 1 (R[m]).1 _ (nCells _) from h.own m hm) b hb).2
    by_cases hji : i = j
    · subst hji
      rw [List.getElem_set_self] at hb
      rw [List.getElem_set_ne hne] at hb2
      rcases hv b hb with h3 | h3
      · exact h.ap i hi k hk' hne b h3 hb2
      · have := hlt k hk' b hb2; omega
    · rw [List.getElem_set_ne hji] at hb
      by_cases hki : i = k
      · subst hki
        rw [List.getElem_set_self] at hb2
        rcases hv b hb2 with h3 | h3
        · exact h.ap j hj i hi hne b hb h3
        · have := hlt j hj b hb; omega
      · rw [List.getElem_set_ne hki] at hb2
        exact h.ap j hj k hk' hne b hb hb2
/-- An append to one of them. -/
theorem Rws.app (h : Rws w base R) {i : Nat} (hi : i < R.length) {v' : Value} {x : Nat} {L : List Nat} (h1 : w'.ownsRow base 3 1 v' (L.length + 1) (nCells L ++ [.int .i64 (x : Int)])) (h2 : AppAt w w' (R[i]).1 v') : Rws w' base (R.set i (v', L ++ [x])) := by
  have o : OwnN w' base v' (L ++ [x]) := by
    unfold OwnN
    rw [nCells_snoc, List.length_append, List.length_singleton]
    exact h1
  rcases h2 with ⟨q, a, b, c⟩ | ⟨a, b⟩
  · exact h.upd hi o (kept_of_grown c) (fun k hk => a.trans hk) (fun k hk => .inl (by rw [a, ← b]; exact hk))
  · exact h.upd (F := fun _ => False) hi o (Kept.of_below (below_of_grown a)) (fun k hk => hk.elim) (fun k hk => .inr (b k hk))
/-- A store into one of them. -/
theorem Rws.store (h : Rws w base R) {i : Nat} (hi : i < R.length) {g n cap : Nat} {L : List Nat} (hR : R[i] = (.slice (some ⟨g, 0, none⟩) n cap, L)) (k x : Nat) : Rws (w.setCell ⟨g, k, none⟩ (.int .i64 (x : Int))) base (R.set i (.slice (some ⟨g, 0, none⟩) n cap, L.set k x)) := by
  have ho := h.own i hi
  rw [hR] at ho
  obtain ⟨o1, k1⟩ := ho.store k x
  exact h.upd hi o1 k1 (fun b hb => by rw [hR, hb]; rfl) (fun b hb => .inl (by rw [hR]; exact hb))
/-- One row more, made anew. -/
theorem Rws.cons (h : Rws w base R) (x : Below w.heap.size w w') {v : Value} {L : List Nat} (ho : OwnN w' base v L) (hb : ∀ b, v.ownBlock = some b → w.heap.size ≤ b) : Rws w' base (R ++ [(v, L)]) := by
  have h' := h.below x
  have hlt : ∀ m (hm : m < R.length) b, (R[m]).1.ownBlock = some b → b < w.heap.size := fun m hm b hb => (World.ownsRow.lt (show w.ownsRow base 3 1 (R[m]).1 _ (nCells _) from h.own m hm) b hb).2
  refine ⟨fun j hj => ?_, fun j hj k hk hne b h1 h2 => ?_⟩
  · by_cases hjl : j < R.length
    · rw [List.getElem_append_left hjl]; exact h'.own j hjl
    · have : j = R.length := by rw [List.length_append, List.length_singleton] at hj; omega
      subst this
      rw [List.getElem_append_right (Nat.le_refl _)]
      simpa using ho
  · by_cases hjl : j < R.length
    · rw [List.getElem_append_left hjl] at h1
      by_cases hkl : k < R.length
      · rw [List.getElem_append_left hkl] at h2; exact h.ap j hjl k hkl hne b h1 h2
      · have : k = R.length := by rw [List.length_append, List.length_singleton] at hk; omega
        subst this
        rw [List.getElem_append_right (Nat.le_refl _)] at h2
        have := hlt j hjl b h1
        have := hb b (by simpa using h2)
        omega
    · have : j = R.length := by rw [List.length_append, List.length_singleton] at hj; omega
      subst this
      rw [List.getElem_append_right (Nat.le_refl _)] at h1
      have hkl : k < R.length := by rw [List.length_append, List.length_singleton] at hk; omega
      rw [List.getElem_append_left hkl] at h2
      have := hlt k hkl b h2
      have := hb b (by simpa using h1)
      omega
theorem Rws.nil (w : World) (base : Nat) : Rws w base [] := ⟨fun j hj => (by cases hj), fun j hj => (by cases hj)⟩
end
/-- Flags in a row of their own. -/
def OwnB (w : World) (base : Nat) (v : Value) (L : List Bool) : Prop := w.ownsRow base 4 1 v L.length (L.map Value.bool)
theorem made_falses (n : Nat) : (madeCells (Value.bool false).cells (n * 1)).toList = (List.replicate n false).map Value.bool := by
  simp only [madeCells, Value.cells, List.map_replicate, Nat.mul_one]
  rw [List.eq_replicate_iff]
  refine ⟨by simp, fun b hb => ?_⟩
  simp only [Array.toList_map, List.mem_map] at hb
  obtain ⟨x, _, rfl⟩ := hb
  simp [Nat.mod_one]
theorem Tryz.info4n : (Tryz.prog.info? 4).map (fun i => (i.zero, i.size, i.bytes)) = some (some (.bool false), 1, 1) := by kernel_rfl
theorem OwnB.len {w : World} {base g cap n : Nat} {L : List Bool} (h : OwnB w base (.slice (some ⟨g, 0, none⟩) n cap) L) : n = L.length := by
  have hh : w.ownsRow base 4 1 (.slice (some ⟨g, 0, none⟩) n cap) L.length (L.map Value.bool) := h
  rcases hh.2 with ⟨e, e2⟩ | ⟨g', c', cur, e, _⟩
  · cases e
  · injection e with _ e2 _
theorem OwnB.cell {w : World} {base g cap n : Nat} {L : List Bool} (h : OwnB w base (.slice (some ⟨g, 0, none⟩) n cap) L) {i : Nat} (hi : i < L.length) : w.cell? ⟨g, i, none⟩ = some (.bool L[i]) ∧ w.frozen? ⟨g, i, none⟩ = false := by
  obtain rfl := h.len
  have hh : w.ownsRow base 4 1 (.slice (some ⟨g, 0, none⟩) L.length cap) L.length (L.map Value.bool) := h
  exact ⟨by rw [hh.cellAt i (by omega)]; simp [hi], hh.frozenAt _⟩
theorem OwnB.store {w : World} {base g cap n : Nat} {L : List Bool} (h : OwnB w base (.slice (some ⟨g, 0, none⟩) n cap) L) (i : Nat) (x : Bool) : OwnB (w.setCell ⟨g, i, none⟩ (.bool x)) base (.slice (some ⟨g, 0, none⟩) n cap) (L.set i x) ∧ Kept (fun k => k = g) w (w.setCell ⟨g, i, none⟩ (.bool x)) := by
  obtain rfl := h.len
  have hh : w.ownsRow base 4 1 (.slice (some ⟨g, 0, none⟩) L.length cap) L.length (L.map Value.bool) := h
  obtain ⟨h1, h2⟩ := hh.stored i (.bool x)
  refine ⟨?_, (kept_of_grown h2).mono (fun k hk => by injection hk with hk; exact hk.symm)⟩
  unfold OwnB
  rw [List.length_set, List.map_set]
  exact h1
theorem OwnN.slot {w : World} {base g cap n : Nat} {L : List Nat} (h : OwnN w base (.slice (some ⟨g, 0, none⟩) n cap) L) {i : Nat} (hi : i < L.length) : w.cell? ⟨g, i, none⟩ = some (.int .i64 (L[i] : Int)) ∧ w.frozen? ⟨g, i, none⟩ = false := by
  refine ⟨h.cell hi, ?_⟩
  have hh : w.ownsRow base 3 1 (.slice (some ⟨g, 0, none⟩) n cap) L.length (nCells L) := h
  have hn : n = L.length := by
    rcases hh.2 with ⟨e, e2⟩ | ⟨g', c', cur, e, _⟩
    · cases e
    · injection e with _ e2 _
  subst hn
  exact hh.frozenAt _
end Go.Proofs.YtdgoilkgplnhfaaGreat
