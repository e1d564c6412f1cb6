/-
  The document's columns, the states that texts lead to, the columns that differ. Of no program's walk: the conditions are named.
-/
import Derived.Test.YtdgoilkgplnhfaaGreatB09
import Derived.Test.YtdgoilkgplnhfaaGreatB06
import Derived.Laws.BytesArg
import Derived.Deep.DeepCutAuto
import Derived.Deep.LoopGhost
namespace Go.Proofs.YtdgoilkgplnhfaaGreat

def gB (B : List Bool) (i : Nat) : Bool := B.getD i false
theorem gB_lt {B : List Bool} {i : Nat} (h : i < B.length) : gB B i = B[i] := by simp [gB, List.getD_eq_getElem?_getD, h]
theorem gB_set {B : List Bool} {i j : Nat} {v : Bool} (h : i < B.length) : gB (B.set i v) j = if j = i then v else gB B j := by
  unfold gB
  simp only [List.getD_eq_getElem?_getD, List.getElem?_set]
  by_cases e : i = j
  · subst e; simp [h]
  · rw [if_neg e, if_neg (fun h => e h.symm)]
theorem gB_false (n i : Nat) : gB (List.replicate n false) i = false := by
  unfold gB
  by_cases h : i < n
  · simp [List.getD_eq_getElem?_getD, h]
  · rw [List.getD_eq_getElem?_getD, List.getElem?_eq_none (by simp; omega)]
    rfl
theorem gN_zero (n i : Nat) : gN (List.replicate n 0) i = 0 := by
  unfold gN
  by_cases h : i < n
  · simp [List.getD_eq_getElem?_getD, h]
  · rw [List.getD_eq_getElem?_getD, List.getElem?_eq_none (by simp; omega)]
    rfl
/-- The columns of b bytes, and their flags. -/
structure ClT (bc : Nat → Nat) (b : Nat) (B : List Bool) (L : List Nat) : Prop where
  bl : B.length = 256
  fl : ∀ c, c < 256 → (gB B c = true ↔ c ∈ L)
  al : ∀ b', b' < b → bc b' ∈ L
  of : ∀ c ∈ L, ∃ b', b' < b ∧ bc b' = c
  len : L.length ≤ b
section
variable {bc : Nat → Nat} {b : Nat} {B : List Bool} {L : List Nat}
theorem ClT.start : ClT bc 0 (List.replicate 256 false) [] := ⟨List.length_replicate, fun c _ => by rw [gB_false]; simp, fun b' h => by omega, fun c h => (by cases h), Nat.le_refl _⟩
theorem ClT.old (h : ClT bc b B L) (hc : bc b < 256) (hB : gB B (bc b) = true) : ClT bc (b + 1) B L := by
  have hm := (h.fl _ hc).1 hB
  refine ⟨h.bl, h.fl, fun b' hb => ?_, fun c h1 => ?_, by have := h.len; omega⟩
  · rcases Nat.lt_or_ge b' b with h1 | h1
    · exact h.al b' h1
    · rw [show b' = b by omega]; exact hm
  · obtain ⟨b', h2, h3⟩ := h.of c h1
    exact ⟨b', by omega, h3⟩
theorem ClT.new (h : ClT bc b B L) (hc : bc b < 256) : ClT bc (b + 1) (B.set (bc b) true) (L ++ [bc b]) := by
  have hbl := h.bl
  refine ⟨by rw [List.length_set]; exact hbl, fun c hc' => ?_, fun b' hb => ?_, fun c h1 => ?_, by have := h.len; simp; omega⟩
  · rw [gB_set (by omega)]
    by_cases e : c = bc b
    · rw [if_pos e]; simp [e]
    · rw [if_neg e, h.fl c hc']; simp [e]
  · rcases Nat.lt_or_ge b' b with h1 | h1
    · exact List.mem_append_left _ (h.al b' h1)
    · rw [show b' = b by omega]; simp
  · rcases List.mem_append.1 h1 with h1 | h1
    · obtain ⟨b', h2, h3⟩ := h.of c h1
      exact ⟨b', by omega, h3⟩
    · exact ⟨b, by omega, (List.mem_singleton.1 h1).symm⟩
end
/-- States that were met: i of them gone through, k columns of the next one. -/
structure RhS (D : DF) (C : List Nat) (B : List Bool) (l : List Nat) (i k : Nat) : Prop where
  bl : B.length = D.n
  nd : ∀ a, a < l.length → ∀ b, b < l.length → gN l a = gN l b → a = b
  lt : ∀ s ∈ l, s < D.n
  fl : ∀ s, s < D.n → (gB B s = true ↔ s ∈ l)
  z : 0 < l.length ∧ gN l 0 = 0
  re : ∀ s ∈ l, ∃ t, Txt t ∧ D.run 0 t = s
  dn : ∀ a, a < i → ∀ c ∈ C, D.nx (gN l a) c ∈ l
  dk : ∀ j, j < k → D.nx (gN l i) (gN C j) ∈ l
section
variable {D : DF} {C l : List Nat} {B : List Bool} {i k : Nat}
theorem gN_mem {l : List Nat} {i : Nat} (h : i < l.length) : gN l i ∈ l := by rw [gN_lt h]; exact List.getElem_mem h
theorem RhS.start (hn : 0 < D.n) : RhS D C ((List.replicate D.n false).set 0 true) [0] 0 0 := by
  refine ⟨by simp, fun _ ha _ hb _ => by simp at ha hb; omega, fun s hs => ?_, fun s hs => ?_, ⟨by simp, rfl⟩, fun s hs => ⟨[], Txt.nil, (List.mem_singleton.1 hs).symm⟩, fun _ ha => by omega, fun j hj => by omega⟩
  · rw [List.mem_singleton.1 hs]; exact hn
  · rw [gB_set (by simp; exact hn)]
    by_cases e : s = 0
    · rw [if_pos e]; simp [e]
    · rw [if_neg e, gB_false]; simp [e]
theorem RhS.few (h : RhS D C B l i k) : l.length ≤ D.n := pigeon D.n l.length (gN l) (fun _ ha => h.lt _ (gN_mem ha)) h.nd
theorem RhS.old (h : RhS D C B l i k) (hx : D.nx (gN l i) (gN C k) < D.n) (hB : gB B (D.nx (gN l i) (gN C k)) = true) : RhS D C B l i (k + 1) := by
  refine ⟨h.bl, h.nd, h.lt, h.fl, h.z, h.re, h.dn, fun j hj => ?_⟩
  rcases Nat.lt_or_ge j k with h1 | h1
  · exact h.dk j h1
  · rw [show j = k by omega]; exact (h.fl _ hx).1 hB
theorem RhS.new (h : RhS D C B l i k) (hi : i < l.length) (hC : ∃ b, b < 256 ∧ D.bc b = gN C k) (hx : D.nx (gN l i) (gN C k) < D.n) (hB : gB B (D.nx (gN l i) (gN C k)) = false) : RhS D C (B.set (D.nx (gN l i) (gN C k)) true) (l ++ [D.nx (gN l i) (gN C k)]) i (k + 1) := by
  obtain ⟨b, hb, eb⟩ := hC
  have hni : ¬ D.nx (gN l i) (gN C k) ∈ l := fun hm => by rw [(h.fl _ hx).2 hm] at hB; cases hB
  have hbl := h.bl
  obtain ⟨t, t1, t2⟩ := h.re _ (gN_mem hi)
  have hz := h.z
  have gi : gN (l ++ [D.nx (gN l i) (gN C k)]) i = gN l i := gN_left hi
  generalize hX : D.nx (gN l i) (gN C k) = x at *
  refine ⟨by rw [List.length_set]; exact hbl, fun a ha c hc e => ?_, fun s hs => ?_, fun s hs => ?_, ⟨by simp, by rw [gN_left hz.1]; exact hz.2⟩, fun s hs => ?_, fun a ha c hc => ?_, fun j hj => ?_⟩
  · have mem : ∀ a, a < l.length → ¬ gN l a = x := fun a ha e => hni (by rw [← e]; exact gN_mem ha)
    simp only [List.length_append, List.length_singleton] at ha hc
    by_cases h1 : a < l.length
    · by_cases h2 : c < l.length
      · rw [gN_left h1, gN_left h2] at e; exact h.nd a h1 c h2 e
      · rw [gN_left h1, show c = l.length by omega, gN_last] at e; exact absurd e (mem a h1)
    · by_cases h2 : c < l.length
      · rw [gN_left h2, show a = l.length by omega, gN_last] at e; exact absurd e.symm (mem c h2)
      · omega
  · rcases List.mem_append.1 hs with hs | hs
    · exact h.lt s hs
    · rw [List.mem_singleton.1 hs]; exact hx
  · rw [gB_set (by omega)]
    by_cases e : s = x
    · rw [if_pos e]; simp [e]
    · rw [if_neg e, h.fl s hs]; simp [e]
  · rcases List.mem_append.1 hs with hs | hs
    · exact h.re s hs
    · rw [List.mem_singleton.1 hs]
      refine ⟨t ++ [b], t1.snoc hb, ?_⟩
      rw [DF.run_snoc, t2]
      unfold DF.step
      rw [eb]; exact hX
  · have hai : a < l.length := by omega
    rw [gN_left hai]
    exact List.mem_append_left _ (h.dn a ha c hc)
  · rw [gi]
    rcases Nat.lt_or_ge j k with h1 | h1
    · exact List.mem_append_left _ (h.dk j h1)
    · rw [show j = k by omega, hX]; simp
theorem RhS.row (h : RhS D C B l i C.length) : RhS D C B l (i + 1) 0 := by
  refine ⟨h.bl, h.nd, h.lt, h.fl, h.z, h.re, fun a ha c hc => ?_, fun j hj => by omega⟩
  rcases Nat.lt_or_ge a i with h1 | h1
  · exact h.dn a h1 c hc
  · rw [show a = i by omega]
    obtain ⟨j, h2, h3⟩ := mem_gN hc
    rw [← h3]; exact h.dk j h2
theorem RhS.done (h : RhS D C B l l.length 0) (hC : ∀ b, b < 256 → D.bc b ∈ C) : RdT D l := by
  refine ⟨h.lt, by rw [← h.z.2]; exact gN_mem h.z.1, fun s hs b hb => ?_, h.re⟩
  obtain ⟨a, h1, h2⟩ := mem_gN hs
  rw [← h2]
  exact h.dn a h1 _ (hC b hb)
end
/-- Of k columns those that differ. -/
structure UnS (D : DF) (l C : List Nat) (k : Nat) (U : List Nat) : Prop where
  mem : ∀ c ∈ U, c ∈ C
  rep : ∀ j, j < k → ∃ i, i < U.length ∧ ∀ s ∈ l, D.nx s (gN C j) = D.nx s (gN U i)
  len : U.length ≤ k
section
variable {D : DF} {l C U : List Nat} {k : Nat}
theorem UnS.start : UnS D l C 0 [] := ⟨fun c h => (by cases h), fun j hj => by omega, Nat.le_refl _⟩
theorem UnS.old (h : UnS D l C k U) {i : Nat} (hi : i < U.length) (he : ∀ s ∈ l, D.nx s (gN C k) = D.nx s (gN U i)) : UnS D l C (k + 1) U := by
  refine ⟨h.mem, fun j hj => ?_, by have := h.len; omega⟩
  rcases Nat.lt_or_ge j k with h1 | h1
  · exact h.rep j h1
  · rw [show j = k by omega]; exact ⟨i, hi, he⟩
theorem UnS.new (h : UnS D l C k U) (hk : k < C.length) : UnS D l C (k + 1) (U ++ [gN C k]) := by
  refine ⟨fun c hc => ?_, fun j hj => ?_, by have := h.len; simp; omega⟩
  · rcases List.mem_append.1 hc with hc | hc
    · exact h.mem c hc
    · rw [List.mem_singleton.1 hc]; exact gN_mem hk
  · rcases Nat.lt_or_ge j k with h1 | h1
    · obtain ⟨i, h2, h3⟩ := h.rep j h1
      exact ⟨i, by simp; omega, fun s hs => by rw [gN_left h2]; exact h3 s hs⟩
    · rw [show j = k by omega]
      exact ⟨U.length, by simp, fun s _ => by rw [gN_last]⟩
theorem UnS.done (h : UnS D l C C.length U) (hC : ∀ b, b < 256 → D.bc b ∈ C) : ∀ b, b < 256 → ∃ j, j < U.length ∧ ∀ s ∈ l, D.nx s (D.bc b) = D.nx s (gN U j) := fun b hb => by
  obtain ⟨j, h1, h2⟩ := mem_gN (hC b hb)
  obtain ⟨i, h3, h4⟩ := h.rep j h1
  exact ⟨i, h3, fun s hs => by rw [← h2]; exact h4 s hs⟩
end
end Go.Proofs.YtdgoilkgplnhfaaGreat
/-
  The columns of all bytes as a text; whether a number is a label. Condition: at most 2^32 columns.
-/
namespace Go.Proofs.YtdgoilkgplnhfaaGreat
open Go.RowKit Go.Lib

def Lab (l : Int) : Prop := 0 ≤ l ∧ l ≤ 65535
instance (l : Int) : Decidable (Lab l) := inferInstanceAs (Decidable (0 ≤ l ∧ l ≤ 65535))
set_option maxRecDepth 100000 in
theorem isLabel_any (l : Int) (w : World) : Calls Tryz.prog 64 #[.int .i64 l] w fun e w' => e = .returned (.bool (decide (Lab l))) ∧ w' = w := by
  by_cases h1 : 0 ≤ l
  · by_cases h2 : l ≤ 65535
    · have HE : Hid (decide (Lab l) = true) := decide_eq_true ⟨h1, h2⟩
      go_enter Tryz.func64, Tryz.ntmps64
      go_wp2
      go_ret
      exact ⟨by rw [HE.out]; first | rfl | simp_all, rfl⟩
    · have HE : Hid (decide (Lab l) = false) := decide_eq_false (fun h => h2 h.2)
      go_enter Tryz.func64, Tryz.ntmps64
      go_wp2
      go_ret
      exact ⟨by rw [HE.out]; first | rfl | simp_all, rfl⟩
  · have HE : Hid (decide (Lab l) = false) := decide_eq_false (fun h => h1 h.1)
    go_enter Tryz.func64, Tryz.ntmps64
    go_wp2
    go_ret
    exact ⟨by rw [HE.out]; first | rfl | simp_all, rfl⟩
/-- Bytes in a row of their own. -/
def uCells (L : List Nat) : List Value := L.map fun (n : Nat) => Value.int .u8 (n : Int)
def OwnU (w : World) (base : Nat) (v : Value) (L : List Nat) : Prop := w.ownsRow base 5 1 v L.length (uCells L)
theorem Tryz.info5n : (Tryz.prog.info? 5).map (fun i => (i.zero, i.size, i.bytes)) = some (some (.int .u8 0), 1, 1) := by kernel_rfl
theorem made_bytes (n : Nat) : (madeCells (Value.int .u8 0).cells (n * 1)).toList = uCells (List.replicate n 0) := by
  unfold uCells
  simp only [madeCells, Value.cells, List.map_replicate, Nat.mul_one]
  rw [List.eq_replicate_iff]
  refine ⟨by simp, fun b hb => ?_⟩
  simp only [Array.toList_map, List.mem_map] at hb
  obtain ⟨x, _, rfl⟩ := hb
  simp [Nat.mod_one]
theorem OwnU.slot {w : World} {base g n : Nat} {L : List Nat} (h : OwnU w base (.slice (some ⟨g, 0, none⟩) n n) L) {i : Nat} (hi : i < L.length) : n = L.length ∧ w.cell? ⟨g, i, none⟩ = some (.int .u8 (L[i] : Int)) ∧ w.frozen? ⟨g, i, none⟩ = false := by
  have hh : w.ownsRow base 5 1 (.slice (some ⟨g, 0, none⟩) n n) L.length (uCells L) := h
  have hn : n = L.length := by
    rcases hh.2 with ⟨e, e2⟩ | ⟨g', c', cur, e, _⟩
    · cases e
    · injection e with _ e2 _
  subst hn
  exact ⟨rfl, by rw [hh.cellAt i (by omega)]; simp [uCells, hi], hh.frozenAt _⟩
theorem OwnU.store {w : World} {base g n : Nat} {L : List Nat} (h : OwnU w base (.slice (some ⟨g, 0, none⟩) n n) L) (hn : n = L.length) (i x : Nat) : OwnU (w.setCell ⟨g, i, none⟩ (.int .u8 (x : Int))) base (.slice (some ⟨g, 0, none⟩) n n) (L.set i x) ∧ Kept (fun k => k = g) w (w.setCell ⟨g, i, none⟩ (.int .u8 (x : Int))) := by
  subst hn
  have hh : w.ownsRow base 5 1 (.slice (some ⟨g, 0, none⟩) L.length L.length) L.length (uCells L) := h
  obtain ⟨h1, h2⟩ := hh.stored i (.int .u8 (x : Int))
  refine ⟨?_, (kept_of_grown h2).mono (fun k hk => by injection hk with hk; exact hk.symm)⟩
  unfold OwnU
  rw [List.length_set, show uCells (L.set i x) = (uCells L).set i (.int .u8 (x : Int)) by simp [uCells, List.map_set]]
  exact h1
def btOf (L : List Nat) : By := L.map UInt8.ofNat
set_option maxRecDepth 100000 in
set_option maxHeartbeats 2000000 in
theorem byteColumns_any (ao : Option Addr) (cap : Nat) (L : List Nat) (w : World) (hl : L.length ≤ 4294967296) (h256 : ∀ x ∈ L, x < 256) (hat : NAt w ao L) :
    Calls Tryz.prog 48 #[.slice ao L.length cap] w fun e w' => e = .returned (.string ⟨(btOf L).toArray⟩) ∧ Below w.heap.size w w' := by
  obtain ⟨i5, hi5, hz50, hz51, hz52⟩ := info_parts Tryz.info5n
  have HAT := hide hat
  have HX := hide h256
  clear hat h256
  go_enter Tryz.func48, Tryz.ntmps48
  go_wp2_with (at_make; refine wpList_make_full _ rfl (.tmp 7) (.tmp 7) 89 rfl w.heap.size 5 i5 (.int .u8 0) 1 Tryz.underlying89 hi5 hz50 hz51 .i64 .i64 _ _ L.length rfl rfl rfl rfl (by rw [hz52]; omega) (by unfold maxLen; omega) (Nat.le_refl _) ?_; intro w2 h1 h2; have X2 := hide (below_of_grown h2); have O2 : Hid (OwnU w2 w.heap.size (.slice (some ⟨w.heap.size, 0, none⟩) L.length L.length) (L.take 0 ++ List.replicate (L.length - 0) 0)) := (by unfold Hid OwnU; rw [made_bytes] at h1; simpa using h1); clear h1 h2)
  go_loopg [11] (L.length + 1) (fun g x wr => ∃ i : Nat, x = .int .i64 i ∧ i ≤ L.length ∧ Hid (OwnU wr w.heap.size (.slice (some ⟨w.heap.size, 0, none⟩) L.length L.length) (L.take i ++ List.replicate (L.length - i) 0)) ∧ Hid (Below w.heap.size w wr) ∧ L.length - i < g)
  case atStart => exact ⟨0, rfl, by omega, O2, X2, by omega⟩
  case round =>
    obtain ⟨i, rfl, hi1, O, XB, hg⟩ := hrel
    have HG := hide hg
    clear hg O2 X2
    by_cases hi : i < L.length
    · have hi' : (i : Int) < (L.length : Int) := by omega
      obtain ⟨b, off, rfl, hb, c0⟩ := (HAT.out.below XB.out).get hi
      have hx := HX.out L[i] (List.getElem_mem hi)
      have hll : (L.take i ++ List.replicate (L.length - i) 0).length = L.length := by simp; omega
      obtain ⟨u1, q1, q2⟩ : ∃ u, wr.cell? ⟨w.heap.size, i, none⟩ = some u ∧ wr.frozen? ⟨w.heap.size, i, none⟩ = false := by obtain ⟨_, q1, q2⟩ := O.out.slot (i := i) (by omega); exact ⟨_, q1, q2⟩
      obtain ⟨o3, k3⟩ := O.out.store hll.symm i L[i]
      have e3 : (L.take i ++ List.replicate (L.length - i) 0).set i L[i] = L.take (i + 1) ++ List.replicate (L.length - (i + 1)) 0 := by
        rw [List.set_append_right _ _ (by simp; omega), List.take_succ_eq_append_getElem hi, List.append_assoc]
        congr 1
        obtain ⟨m, hm⟩ : ∃ m, L.length - i = m + 1 := ⟨L.length - i - 1, by omega⟩
        rw [hm, show L.length - (i + 1) = m by omega, show i - (L.take i).length = 0 by simp; omega]
        rfl
      rw [e3] at o3
      have O3 := hide o3
      have X3 := hide (XB.out.trans (k3.below XB.out.size (fun k hk => by omega)))
      have f1 : IntKind.u8.wrap ((L[i] : Nat) : Int) = ((L[i] : Nat) : Int) := by simp [IntKind.wrap, IntKind.bits, IntKind.signed]; omega
      generalize L[i] = y at *
      clear o3 k3 e3 hll
      go_wp2
      go_roundg (L.length - (i + 1) + 1)
      case measure => have := HG.out; omega
      case rel => exact ⟨i + 1, by first | rfl | go_num | (congr 1; omega), by omega, O3, X3, by omega⟩
    · have hi' : ¬ (i : Int) < (L.length : Int) := by omega
      obtain rfl : i = L.length := by omega
      have o4 : OwnU wr w.heap.size (.slice (some ⟨w.heap.size, 0, none⟩) L.length L.length) L := by have := O.out; rwa [Nat.sub_self, List.replicate_zero, List.append_nil, List.take_length] at this
      have hcv : (convert 89 9 (.slice (some ⟨w.heap.size, 0, none⟩) L.length L.length)).run Tryz.prog wr = .ok (.string (strOfNums (L.map fun b : Nat => (b : Int)))) wr := by
        refine run_convert_bytes_arg wr 89 5 Tryz.underlying89 Tryz.underlying5 w.heap.size 0 L.length L.length (L.map fun b : Nat => (b : Int)) (by simp) (fun i hi => ?_) 9 Tryz.underlying9
        rw [Nat.zero_add, (o4.slot hi).2.1]
        simp [List.getD_eq_getElem?_getD, hi]
      have HE : Hid (strOfNums (L.map fun b : Nat => (b : Int)) = ⟨(btOf L).toArray⟩) := by
        unfold Hid strOfNums btOf
        rw [List.map_map]
        rfl
      rw [HE.out] at hcv
      clear o4
      go_wp2
      go_ret
      exact ⟨rfl, XB.out⟩
end Go.Proofs.YtdgoilkgplnhfaaGreat
/-
  Whether some number of a list passes a test; the greatest byte. Condition: lists no longer than a process can hold.
-/
namespace Go.Proofs.YtdgoilkgplnhfaaGreat
open Go.RowKit Go.Lib

/-- Raw numbers as they lie in memory. -/
def ZAt (w : World) (ao : Option Addr) (L : List Int) : Prop := L = [] ∨ ∃ b off, ao = some ⟨b, off, none⟩ ∧ b < w.heap.size ∧ ∀ i (h : i < L.length), w.cell? ⟨b, off + i, none⟩ = some (.int .i64 L[i])
theorem ZAt.below {w w' : World} {ao : Option Addr} {L : List Int} (h : ZAt w ao L) (hb : Below w.heap.size w w') : ZAt w' ao L := by
  rcases h with h | ⟨b, off, h1, h2, h3⟩
  · exact .inl h
  · exact .inr ⟨b, off, h1, Nat.lt_of_lt_of_le h2 hb.size, fun i hi => (hb.cell (p := ⟨b, off + i, none⟩) h2).trans (h3 i hi)⟩
theorem ZAt.get {w : World} {ao : Option Addr} {L : List Int} (h : ZAt w ao L) {i : Nat} (hi : i < L.length) : ∃ b off, ao = some ⟨b, off, none⟩ ∧ w.cell? ⟨b, off + i, none⟩ = some (.int .i64 L[i]) := by
  rcases h with h | ⟨b, off, h1, h2, h3⟩
  · rw [h] at hi; cases hi
  · exact ⟨b, off, h1, h3 i hi⟩
set_option maxRecDepth 100000 in
set_option maxHeartbeats 2000000 in
theorem indexZ_any (fv : Value) (cl : Nat) (caps : List Value) (hfv : fv = .func (.func cl) #[] caps.toArray) (he : ∀ args w, (callFunc cl args).run Tryz.prog w = .ok (.enter cl args) w) (p : Int → Bool) (ao : Option Addr) (cap : Nat) (L : List Int) (w : World) (hl : L.length ≤ 140737488351232) (hat : ZAt w ao L) (hc : ∀ z ∈ L, ∀ W, Below w.heap.size w W → Calls Tryz.prog cl (.int .i64 z :: caps).toArray W fun e w' => e = .returned (.bool (p z)) ∧ Below W.heap.size W w') :
    Calls Tryz.prog 110 #[.slice ao L.length cap, fv] w fun e w' => (∃ i : Int, e = .returned (.int .i64 i) ∧ (0 ≤ i ↔ ∃ x, x ∈ L ∧ p x = true) ∧ -1 ≤ i) ∧ Below w.heap.size w w' := by
  subst hfv
  have HAT := hide hat
  have HC := hide hc
  clear hat hc
  go_enter Tryz.func110, Tryz.ntmps110
  go_wp2
  go_loopg [8] (L.length + 1) (fun g x wr => ∃ k : Nat, x = .int .i64 (k : Nat) ∧ k ≤ L.length ∧ Hid ((L.take k).any p = false) ∧ Hid (Below w.heap.size w wr) ∧ L.length - k < g)
  case atStart => exact ⟨0, rfl, by omega, by simp [Hid], hide (Below.refl _ _), by omega⟩
  case round =>
    obtain ⟨k, rfl, hk1, HA, XB, hg⟩ := hrel
    have HG := hide hg
    clear hg
    by_cases hk : k < L.length
    · have hk' : (k : Int) < (L.length : Int) := by omega
      obtain ⟨b, off, rfl, c0⟩ := (HAT.out.below XB.out).get hk
      obtain ⟨z, hz⟩ : ∃ z, L[k] = z := ⟨_, rfl⟩
      have H1 := hide (HC.out L[k] (List.getElem_mem hk) wr XB.out)
      have HZ : Hid ((L.take (k + 1)).any p = p z) := by unfold Hid; rw [List.take_succ_eq_append_getElem hk, List.any_append, HA.out, hz]; simp
      have HZ2 : Hid (z ∈ L) := by unfold Hid; rw [← hz]; exact List.getElem_mem hk
      rw [hz] at c0 H1
      clear hz
      go_wp2_with (fail)
      refine H1.out.mono ?_
      rintro e w3 ⟨rfl, x3⟩
      have X3 := hide (bt XB.out x3 (Nat.le_refl _))
      clear H1 x3 c0
      cases hp : p z with
      | true =>
        have HP := hide hp
        go_wp2
        go_ret
        exact ⟨⟨_, rfl, ⟨fun _ => ⟨z, HZ2.out, HP.out⟩, fun _ => by omega⟩, by omega⟩, X3.out⟩
      | false =>
        have HZ3 : Hid ((L.take (k + 1)).any p = false) := HZ.out.trans hp
        go_wp2
        go_roundg (L.length - (k + 1) + 1)
        case measure => have := HG.out; omega
        case rel => exact ⟨k + 1, by first | rfl | go_num | (congr 1; omega), by omega, HZ3, X3, by omega⟩
    · have hk' : ¬ (k : Int) < (L.length : Int) := by omega
      obtain rfl : k = L.length := by omega
      have HE : Hid (L.any p = false) := by have := HA.out; rwa [List.take_length] at this
      go_wp2
      go_ret
      exact ⟨⟨-1, rfl, ⟨fun h => by omega, fun h => by obtain ⟨x, h1, h2⟩ := h; have h3 := List.any_eq_true.2 ⟨x, h1, h2⟩; rw [HE.out] at h3; cases h3⟩, by omega⟩, XB.out⟩
set_option maxRecDepth 100000 in
theorem containsZ_any (fv : Value) (cl : Nat) (caps : List Value) (hfv : fv = .func (.func cl) #[] caps.toArray) (he : ∀ args w, (callFunc cl args).run Tryz.prog w = .ok (.enter cl args) w) (p : Int → Bool) (ao : Option Addr) (cap : Nat) (L : List Int) (w : World) (hl : L.length ≤ 140737488351232) (hat : ZAt w ao L) (hc : ∀ z ∈ L, ∀ W, Below w.heap.size w W → Calls Tryz.prog cl (.int .i64 z :: caps).toArray W fun e w' => e = .returned (.bool (p z)) ∧ Below W.heap.size W w') :
    Calls Tryz.prog 76 #[.slice ao L.length cap, fv] w fun e w' => e = .returned (.bool (L.any p)) ∧ Below w.heap.size w w' := by
  have H1 := hide (indexZ_any fv cl caps hfv he p ao cap L w hl hat hc)
  clear hc hat hfv he
  go_enter Tryz.func76, Tryz.ntmps76
  go_wp2_with (fail)
  refine H1.out.mono ?_
  rintro e w2 ⟨⟨i, rfl, hi, _⟩, x2⟩
  have X2 := hide x2
  clear H1 x2
  by_cases h0 : 0 ≤ i
  · have HE : Hid (L.any p = true) := List.any_eq_true.2 (hi.1 h0)
    clear hi
    go_wp2
    go_ret
    exact ⟨by rw [HE.out]; first | rfl | simp_all, X2.out⟩
  · have HE : Hid (L.any p = false) := by
      unfold Hid
      cases hx : L.any p with
      | false => rfl
      | true => exact absurd (hi.2 (List.any_eq_true.1 hx)) h0
    clear hi
    go_wp2
    go_ret
    exact ⟨by rw [HE.out]; first | rfl | simp_all, X2.out⟩
def noneB (n : Nat) (z : Int) : Bool := decide (z < 0 ∨ (n : Int) ≤ z)
set_option maxRecDepth 100000 in
theorem mayBe1_any (oa : Option Addr) (n oc xb : Nat) (z : Int) (w : World) (hc : w.cell? ⟨xb, 2, none⟩ = some (.slice oa n oc)) :
    Calls Tryz.prog 74 #[.int .i64 z, .pointer (some ⟨xb, 0, none⟩)] w fun e w' => e = .returned (.bool (noneB n z)) ∧ Below w.heap.size w w' := by
  by_cases h1 : z < 0
  · have HE : Hid (noneB n z = true) := decide_eq_true (.inl h1)
    go_enter Tryz.func74, Tryz.ntmps74
    go_wp2
    go_ret
    exact ⟨by rw [HE.out]; first | rfl | simp_all, Below.refl _ _⟩
  · by_cases h2 : (n : Int) ≤ z
    · have HE : Hid (noneB n z = true) := decide_eq_true (.inr h2)
      go_enter Tryz.func74, Tryz.ntmps74
      go_wp2
      go_ret
      exact ⟨by rw [HE.out]; first | rfl | simp_all, Below.refl _ _⟩
    · have HE : Hid (noneB n z = false) := decide_eq_false (fun h => by omega)
      go_enter Tryz.func74, Tryz.ntmps74
      go_wp2
      go_ret
      exact ⟨by rw [HE.out]; first | rfl | simp_all, Below.refl _ _⟩
def nlB (z : Int) : Bool := !decide (Lab z)
set_option maxRecDepth 100000 in
theorem mayBe2_any (z : Int) (w : World) : Calls Tryz.prog 75 #[.int .i64 z] w fun e w' => e = .returned (.bool (nlB z)) ∧ Below w.heap.size w w' := by
  have H1 := hide (isLabel_any z w)
  have HE : Hid (nlB z = !decide (Lab z)) := rfl
  generalize decide (Lab z) = b at *
  generalize nlB z = c at *
  go_enter Tryz.func75, Tryz.ntmps75
  go_wp2_with (fail)
  refine H1.out.mono ?_
  rintro e w2 ⟨rfl, hw⟩
  have hw := hw.symm
  subst hw
  go_wp2
  go_ret
  exact ⟨by rw [HE.out]; rfl, Below.refl _ _⟩
/-- The greatest of some bytes. -/
def mxL (L : List Nat) : Nat := L.foldl max 0
theorem mxL_snoc (L : List Nat) (x : Nat) : mxL (L ++ [x]) = max (mxL L) x := by simp [mxL, List.foldl_append]
set_option maxRecDepth 100000 in
set_option maxHeartbeats 2000000 in
theorem max_any (xb cap : Nat) (L : List Nat) (w : World) (h0 : 0 < L.length) (hl : L.length ≤ 140737488351232) (hc : ∀ i (h : i < L.length), w.cell? ⟨xb, i, none⟩ = some (.int .u8 (L[i] : Int))) :
    Calls Tryz.prog 73 #[.slice (some ⟨xb, 0, none⟩) L.length cap] w fun e w' => e = .returned (.int .u8 ((mxL L : Nat) : Int)) ∧ w' = w := by
  have c0 := hc 0 h0
  have HC := hide hc
  have h0' : (0 : Int) < (L.length : Int) := by omega
  have h1' : ¬ (L.length : Int) < 1 := by omega
  have HM0 : Hid (mxL (L.take 1) = L[0]) := by
    unfold Hid
    rw [List.take_succ_eq_append_getElem h0, List.take_zero, List.nil_append]
    simp [mxL]
  clear hc
  go_enter Tryz.func73, Tryz.ntmps73
  go_wp2
  go_loopg [3, 4] (L.length + 1) (fun g m x wr => ∃ k : Nat, x = .int .i64 (k : Nat) ∧ k ≤ L.length ∧ m = .int .u8 ((mxL (L.take k) : Nat) : Int) ∧ wr = w ∧ L.length - k < g)
  case atStart => exact ⟨1, rfl, by omega, by rw [HM0.out], rfl, by omega⟩
  case round =>
    obtain ⟨k, rfl, hk1, rfl, rfl, hg⟩ := hrel
    have HG := hide hg
    clear hg c0
    by_cases hk : k < L.length
    · have hk' : (k : Int) < (L.length : Int) := by omega
      have c1 := HC.out k hk
      have HM : Hid (mxL (L.take (k + 1)) = max (mxL (L.take k)) L[k]) := by unfold Hid; rw [List.take_succ_eq_append_getElem hk, mxL_snoc]
      generalize L[k] = y at *
      generalize mxL (L.take k) = m at *
      go_wp2
      all_goals
        go_roundg (L.length - (k + 1) + 1)
        case measure => have := HG.out; omega
        case rel => exact ⟨k + 1, by first | rfl | go_num | (congr 1; omega), by omega, by rw [HM.out]; first | rfl | (congr 1; omega), by first | rfl | trivial, by omega⟩
    · have hk' : ¬ (k : Int) < (L.length : Int) := by omega
      obtain rfl : k = L.length := by omega
      have HE : Hid (mxL (L.take L.length) = mxL L) := by unfold Hid; rw [List.take_length]
      rw [HE.out]
      go_wp2
      go_ret
      exact ⟨rfl, rfl⟩
end Go.Proofs.YtdgoilkgplnhfaaGreat
