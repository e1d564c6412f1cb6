/-
  text by its contract: four numbers in decimal, with points between. Condition: the library's table of powers of ten reads as its text lays it.
-/
import Derived.Test.YtfjifedfenpbbaaDoorQuad
import Derived.Test.YtfjifedfenpbbaaDoorShelf
import Derived.Deep.OwnRows
namespace Go.Proofs.YtfjifedfenpbbaaDoor
open Go.RowKit Go.Lib

/-- The table of powers of ten. -/
def Tab (w : World) : Prop := Lib.TabIs Tryd.prog w "internal/strconv.uint64pow10" .u64 Lib.pow10Tab
theorem Tab.below {w w' : World} (h : Tab w) (hb : Below w.heap.size w w') : Tab w' := by
  unfold Tab TabIs World.var? at *
  cases hg : Tryd.prog.globalNamed "internal/strconv.uint64pow10" with
  | none => simp [hg] at h
  | some g =>
    simp only [hg, Option.bind_some] at h ⊢
    have hlt : g < w.heap.size := by
      rcases Nat.lt_or_ge g w.heap.size with h' | h'
      · exact h'
      · rw [Array.getElem?_eq_none h'] at h; simp at h
    rw [hb.block g hlt]
    exact h
theorem itoa_any (n : Nat) (h : n ≤ 9223372036854775807) (w : World) (ht : Tab w) : Calls Tryd.prog 38 #[.int .i64 n] w fun e w' => e = .returned (.string ⟨(Lib.decDigits n).toArray⟩) ∧ Below w.heap.size w w' := by
  refine (Tryd.strconv_Itoa n (by omega) (by omega) w ht).mono ?_
  rintro e w' ⟨rfl, k, os, rfl⟩
  rw [Lib.itoa_nonneg]
  exact ⟨rfl, rfl, rfl, rfl, by simp [World.drewN], fun j hj => Sort.heap_grow_old (w.drewN k) os hj⟩
theorem heap_alloc_new (w : World) (o : Obj) : (w.alloc o).heap[w.heap.size]? = some o := by
  show (w.heap.push o)[w.heap.size]? = some o
  simp
/-- A cell of a block of cells is written. -/
theorem block_setCell {w : World} {b : Nat} {cs : Array Value} {t : TypeId} {fr : Nat × Nat} (h : w.heap[b]? = some (.cells cs t fr)) (j : Nat) (u : Value) : (w.setCell ⟨b, j, none⟩ u).heap[b]? = some (.cells (cs.set! j u) t fr) := by
  have hlt := lt_of_block h
  have h' : w.heap[b] = .cells cs t fr := by simpa [Array.getElem?_eq_getElem hlt] using h
  show (w.heap.modify b _)[b]? = _
  rw [Array.getElem?_eq_getElem (by simpa using hlt), Array.getElem_modify_self, h']
  rfl
/-- Four numbers with points between. -/
def dots (a b c d : Nat) : List UInt8 := Lib.decDigits a ++ 46 :: (Lib.decDigits b ++ 46 :: (Lib.decDigits c ++ 46 :: Lib.decDigits d))
theorem dots_length (a b c d : Nat) (ha : a < 256) (hb : b < 256) (hc : c < 256) (hd : d < 256) : (dots a b c d).length ≤ 15 := by
  have h : ∀ n, n < 256 → (Lib.decDigits n).length ≤ 3 := by decide +kernel
  have := h a ha; have := h b hb; have := h c hc; have := h d hd
  simp [dots]; omega
def sv (n : Nat) : ByteArray := ⟨(Lib.decDigits n).toArray⟩
/-- The row of four texts, k of them laid. -/
def RowT (w : World) (p : Nat) (a b c d : Nat) (i : Value) : Prop :=
  (i = .int .i64 0 ∧ w.heap[p]? = some (.cells #[.string ByteArray.empty, .string ByteArray.empty, .string ByteArray.empty, .string ByteArray.empty] 9 (0, 0))) ∨
  (i = .int .i64 1 ∧ w.heap[p]? = some (.cells #[.string (sv a), .string ByteArray.empty, .string ByteArray.empty, .string ByteArray.empty] 9 (0, 0))) ∨
  (i = .int .i64 2 ∧ w.heap[p]? = some (.cells #[.string (sv a), .string (sv b), .string ByteArray.empty, .string ByteArray.empty] 9 (0, 0))) ∨
  (i = .int .i64 3 ∧ w.heap[p]? = some (.cells #[.string (sv a), .string (sv b), .string (sv c), .string ByteArray.empty] 9 (0, 0))) ∨
  (i = .int .i64 4 ∧ w.heap[p]? = some (.cells #[.string (sv a), .string (sv b), .string (sv c), .string (sv d)] 9 (0, 0)))

set_option maxRecDepth 100000 in
set_option maxHeartbeats 4000000 in
theorem text_any (a b c d : Nat) (ha : a < 256) (hb : b < 256) (hc : c < 256) (hd : d < 256) (w : World) (ht : Tab w) :
    Calls Tryd.prog 35 #[.agg #[.int .u8 a, .int .u8 b, .int .u8 c, .int .u8 d]] w fun e w' => e = .returned (.string ⟨(dots a b c d).toArray⟩) ∧ Below w.heap.size w w' := by
  have j0 := i0 (.int .u8 a) (.int .u8 b) (.int .u8 c) (.int .u8 d)
  have j1 := i1 (.int .u8 a) (.int .u8 b) (.int .u8 c) (.int .u8 d)
  have j2 := i2 (.int .u8 a) (.int .u8 b) (.int .u8 c) (.int .u8 d)
  have j3 := i3 (.int .u8 a) (.int .u8 b) (.int .u8 c) (.int .u8 d)
  have hmk : ∀ w, (Instr.makeSlice 23 (.int .i64 4) (.int .i64 4)).run Tryd.prog w = .ok (.slice (some ⟨w.heap.size, 0, none⟩) 4 4) (w.alloc (.cells #[.string ByteArray.empty, .string ByteArray.empty, .string ByteArray.empty, .string ByteArray.empty] 9)) := fun w =>
    (run_make_row' (P := Tryd.prog) 23 9 (.string ByteArray.empty) 16 Tryd.underlying23 (by kernel_rfl) rfl .i64 .i64 4 (by decide) (by decide) w).trans (by rw [show madeCells #[Value.string ByteArray.empty] 4 = #[.string ByteArray.empty, .string ByteArray.empty, .string ByteArray.empty, .string ByteArray.empty] by kernel_rfl])
  have HT := hide ht
  clear ht
  go_enter Tryd.func35, Tryd.ntmps35
  go_wp2
  clear hmk
  go_loopw [8] (fun i wr => RowT wr (w.heap.size + 1) a b c d i ∧ Below w.heap.size w wr) (fun i _ => 4 - (RowKit.intOf i).toNat)
  case atStart => exact ⟨.inl ⟨rfl, by have := heap_alloc_new (w.alloc (.cells #[.int .u8 (a : Int), .int .u8 (b : Int), .int .u8 (c : Int), .int .u8 (d : Int)] 55)) (.cells #[.string ByteArray.empty, .string ByteArray.empty, .string ByteArray.empty, .string ByteArray.empty] 9); rwa [show (w.alloc (.cells #[.int .u8 (a : Int), .int .u8 (b : Int), .int .u8 (c : Int), .int .u8 (d : Int)] 55)).heap.size = w.heap.size + 1 by simp] at this⟩, al (al (Below.refl _ _) _) _⟩
  case round =>
    obtain ⟨hr, hq⟩ := hrel
    have HQ := hide hq
    clear hq
    rcases hr with ⟨rfl, hr⟩ | ⟨rfl, hr⟩ | ⟨rfl, hr⟩ | ⟨rfl, hr⟩ | ⟨rfl, hr⟩
    · have c1 : wr.cell? ⟨w.heap.size + 1, 0, none⟩ = some (.string ByteArray.empty) := by rw [cell_of_row wr (w.heap.size + 1) 0 _ _ _ hr]; rfl
      have it := itoa_any a (by omega) wr (HT.out.below HQ.out)
      have HR := hide hr
      clear hr
      go_wp2_with (go_at_call 38; refine it.mono ?_; rintro e w2 ⟨rfl, x2⟩; have b2 := (x2.block (w.heap.size + 1) (lt_of_block HR.out)).trans HR.out; have c2 : w2.cell? ⟨w.heap.size + 1, 0, none⟩ = some (.string ByteArray.empty) := (by rw [cell_of_row w2 (w.heap.size + 1) 0 _ _ _ b2]; rfl); have f2 : w2.frozen? ⟨w.heap.size + 1, 0, none⟩ = false := frozen_of_row w2 (w.heap.size + 1) 0 _ _ b2; have X2 := hide x2; have B2 := hide b2; clear x2 b2)
      go_roundw
      case rel => exact ⟨by have := block_setCell B2.out 0 (.string (sv a)); simp [RowT]; exact this, (HQ.out.trans (X2.out.mono HQ.out.size)).setCell (by simp) _⟩
      case measure => simp [RowKit.intOf]
    · have c1 : wr.cell? ⟨w.heap.size + 1, 1, none⟩ = some (.string ByteArray.empty) := by rw [cell_of_row wr (w.heap.size + 1) 1 _ _ _ hr]; rfl
      have it := itoa_any b (by omega) wr (HT.out.below HQ.out)
      have HR := hide hr
      clear hr
      go_wp2_with (go_at_call 38; refine it.mono ?_; rintro e w2 ⟨rfl, x2⟩; have b2 := (x2.block (w.heap.size + 1) (lt_of_block HR.out)).trans HR.out; have c2 : w2.cell? ⟨w.heap.size + 1, 1, none⟩ = some (.string ByteArray.empty) := (by rw [cell_of_row w2 (w.heap.size + 1) 1 _ _ _ b2]; rfl); have f2 : w2.frozen? ⟨w.heap.size + 1, 1, none⟩ = false := frozen_of_row w2 (w.heap.size + 1) 1 _ _ b2; have X2 := hide x2; have B2 := hide b2; clear x2 b2)
      go_roundw
      case rel => exact ⟨by have := block_setCell B2.out 1 (.string (sv b)); simp [RowT]; exact this, (HQ.out.trans (X2.out.mono HQ.out.size)).setCell (by simp) _⟩
      case measure => simp [RowKit.intOf]
    · have c1 : wr.cell? ⟨w.heap.size + 1, 2, none⟩ = some (.string ByteArray.empty) := by rw [cell_of_row wr (w.heap.size + 1) 2 _ _ _ hr]; rfl
      have it := itoa_any c (by omega) wr (HT.out.below HQ.out)
      have HR := hide hr
      clear hr
      go_wp2_with (go_at_call 38; refine it.mono ?_; rintro e w2 ⟨rfl, x2⟩; have b2 := (x2.block (w.heap.size + 1) (lt_of_block HR.out)).trans HR.out; have c2 : w2.cell? ⟨w.heap.size + 1, 2, none⟩ = some (.string ByteArray.empty) := (by rw [cell_of_row w2 (w.heap.size + 1) 2 _ _ _ b2]; rfl); have f2 : w2.frozen? ⟨w.heap.size + 1, 2, none⟩ = false := frozen_of_row w2 (w.heap.size + 1) 2 _ _ b2; have X2 := hide x2; have B2 := hide b2; clear x2 b2)
      go_roundw
      case rel => exact ⟨by have := block_setCell B2.out 2 (.string (sv c)); simp [RowT]; exact this, (HQ.out.trans (X2.out.mono HQ.out.size)).setCell (by simp) _⟩
      case measure => simp [RowKit.intOf]
    · have c1 : wr.cell? ⟨w.heap.size + 1, 3, none⟩ = some (.string ByteArray.empty) := by rw [cell_of_row wr (w.heap.size + 1) 3 _ _ _ hr]; rfl
      have it := itoa_any d (by omega) wr (HT.out.below HQ.out)
      have HR := hide hr
      clear hr
      go_wp2_with (go_at_call 38; refine it.mono ?_; rintro e w2 ⟨rfl, x2⟩; have b2 := (x2.block (w.heap.size + 1) (lt_of_block HR.out)).trans HR.out; have c2 : w2.cell? ⟨w.heap.size + 1, 3, none⟩ = some (.string ByteArray.empty) := (by rw [cell_of_row w2 (w.heap.size + 1) 3 _ _ _ b2]; rfl); have f2 : w2.frozen? ⟨w.heap.size + 1, 3, none⟩ = false := frozen_of_row w2 (w.heap.size + 1) 3 _ _ b2; have X2 := hide x2; have B2 := hide b2; clear x2 b2)
      go_roundw
      case rel => exact ⟨by have := block_setCell B2.out 3 (.string (sv d)); simp [RowT]; exact this, (HQ.out.trans (X2.out.mono HQ.out.size)).setCell (by simp) _⟩
      case measure => simp [RowKit.intOf]
    · have hj := Tryd.strings_Join (w.heap.size + 1) 0 4 [sv a, sv b, sv c, sv d] ⟨#[46]⟩ wr (fun j x hj => by
        rw [cell_of_row wr (w.heap.size + 1) (0 + j) _ _ _ hr]
        match j, hj with
        | 0, hj => simp at hj; subst hj; rfl
        | 1, hj => simp at hj; subst hj; rfl
        | 2, hj => simp at hj; subst hj; rfl
        | 3, hj => simp at hj; subst hj; rfl) (lt_of_block hr) (by simp) (by simp) (by
          have := dots_length a b c d ha hb hc hd
          have e : Lib.join ([sv a, sv b, sv c, sv d].map (·.data.toList)) [46] = dots a b c d := by simp [Lib.join, List.intercalate, dots, sv]
          show (Lib.join _ [46]).length ≤ _
          rw [e]; omega)
      have e : Lib.join ([sv a, sv b, sv c, sv d].map (·.data.toList)) (⟨#[46]⟩ : ByteArray).data.toList = dots a b c d := by simp [Lib.join, List.intercalate, dots, sv]
      rw [e] at hj
      clear hr e
      go_wp2_with (go_at_call 53; refine hj.mono ?_; rintro e w2 ⟨rfl, x2⟩; have X2 := hide x2; clear x2)
      go_ret
      exact ⟨rfl, bt HQ.out X2.out (Nat.le_refl _)⟩
end Go.Proofs.YtfjifedfenpbbaaDoor
