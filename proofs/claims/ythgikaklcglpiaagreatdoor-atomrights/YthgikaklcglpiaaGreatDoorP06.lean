/-
  strings.Builder at an address that lies in whatever block, by contracts of our own. Conditions: the block's type has a Builder there; the builder's row is owned.
-/
import Derived.Lib.Builder
import Derived.Lib.RuneBytes
import Derived.Laws.Rows
import Derived.BigCall
import Derived.Deep.DeepCutAuto
import Derived.Deep.CutBlock
import Derived.Test.YthgikaklcglpiaaGreatDoorP05
import Derived.Shelf.Strings.BuilderF
import Derived.Lib.UnsafeStr
namespace Go.Proofs.YthgikaklcglpiaaGreatDoor.L9
open Go.RowKit Go.Lib

theorem bt {N : Nat} {a b c : World} (h : Below N a b) (k : Below b.heap.size b c) (hN : N ≤ a.heap.size) : Below N a c := h.trans (k.mono (Nat.le_trans hN h.size))
theorem al {w w' : World} (h : Below w.heap.size w w') (o : Obj) : Below w.heap.size w (w'.alloc o) := h.alloc h.size o
theorem info45 : (Tryz.prog.info? 209).map (·.size) = some 2 := by kernel_rfl
theorem Tryz.info5n : (Tryz.prog.info? 5).map (fun i => (i.zero, i.size, i.bytes)) = some (some (.int .u8 0), 1, 1) := by kernel_rfl
set_option maxHeartbeats 1000000 in
set_option maxRecDepth 100000 in
theorem copyUsed_any (b o : Nat) (w : World) (h0 : w.cell? ⟨b, o, none⟩ = some (.pointer (some ⟨b, o, none⟩))) :
    Calls Tryz.prog 253 #[.pointer (some ⟨b, o, none⟩)] w fun e w' => e = .returned (.tuple #[]) ∧ w' = w := by
  obtain ⟨j, hj, _⟩ := Option.map_eq_some_iff.1 info45
  go_enter Tryz.func253, Tryz.ntmps253
  go_wp2
  rw [Lib.run_neq_ptr_same w _ Tryz.underlying207 hj]
  go_wp2
  go_end0
  exact ⟨rfl, rfl⟩
set_option maxHeartbeats 1000000 in
set_option maxRecDepth 100000 in
theorem copyFresh_any (b o n : Nat) (e : TypeId) (w : World) (h0 : w.cell? ⟨b, o, none⟩ = some (.pointer none)) (hsh : w.shape? b = some (e, n)) (ho : o < n) (hl : liesAt Tryz.prog Tryz.prog.depth e (n / Tryz.prog.cellsOf e) o 209 1 = true) (hfz : w.frozen? ⟨b, o, none⟩ = false) :
    Calls Tryz.prog 253 #[.pointer (some ⟨b, o, none⟩)] w fun e w' => e = .returned (.tuple #[]) ∧ w' = w.setCell ⟨b, o, none⟩ (.pointer (some ⟨b, o, none⟩)) := by
  obtain ⟨j, hj, hjs⟩ := Option.map_eq_some_iff.1 info45
  go_enter Tryz.func253, Tryz.ntmps253
  go_wp2
  rw [Lib.run_to_unsafe w ⟨b, o, none⟩ Tryz.underlying207 Tryz.underlying291 hj (by rw [hjs]; decide) hsh ho]
  simp only [Result.andThen]
  rw [Oper.upon_value]
  go_wp2
  rw [run_callFunc_extern Tryz.func303 (by kernel_rfl) (by kernel_rfl) (by kernel_rfl) (e := Extern.AbiNoEscape.same) (by kernel_rfl)]
  rw [Lib.run_noEscape]
  simp only [Result.andThen]
  rw [Oper.upon_value]
  go_wp2
  rw [Lib.run_from_unsafe w ⟨b, o, none⟩ Tryz.underlying291 Tryz.underlying207 hj hsh hl]
  simp only [Result.andThen]
  rw [Oper.upon_value]
  go_wp2
  go_end0
  exact ⟨rfl, rfl⟩
theorem block_setCell' {w : World} {b : Nat} {cs : Array Value} {t : TypeId} {fr : Nat × Nat} (h : w.heap[b]? = some (.cells cs t fr)) (j : Nat) (u : Value) : (w.setCell ⟨b, j, none⟩ u).heap[b]? = some (.cells (cs.set! j u) t fr) := by
  have hlt := lt_of_block h
  have h' : w.heap[b] = .cells cs t fr := by simpa [Array.getElem?_eq_getElem hlt] using h
  show (w.heap.modify b _)[b]? = _
  rw [Array.getElem?_eq_getElem (by simpa using hlt), Array.getElem_modify_self, h']
  rfl
/-- What a call may have turned that has a block b and rows of a type, from base on. -/
def KpO (e : TypeId) (base b : Nat) (w w' : World) : Prop := Kept (fun k => k = b ∨ base ≤ k ∧ ∃ c f, w.heap[k]? = some (.cells c e f)) w w'
section
variable {t : TypeId} {base : Nat}
theorem KpO.refl (b : Nat) (w : World) : KpO t base b w w := Kept.refl _ _
theorem KpO.trans {b : Nat} {u v w : World} (h : KpO t base b u v) (k : KpO t base b v w) : KpO t base b u w := by
  refine Kept.trans_new h k (fun i hi hG => ?_)
  rcases hG with rfl | ⟨hb, c, f, hc⟩
  · exact .inl rfl
  · by_cases hF : i = b ∨ base ≤ i ∧ ∃ c f, u.heap[i]? = some (.cells c t f)
    · exact hF
    · rw [h.block i hi hF] at hc
      exact .inr ⟨hb, c, f, hc⟩
theorem KpO.set {b o : Nat} {w : World} (v : Value) : KpO t base b w (w.setCell ⟨b, o, none⟩ v) := (Kept.refl _ w).setCell (p := ⟨b, o, none⟩) (.inl rfl) v
theorem KpO.app {b size n : Nat} {w w5 w' : World} {v v' : Value} {xs : List Value} (x : Below w.heap.size w w5) (ho : w.ownsRow base t size v n xs) (h : AppAt w5 w' v v') : KpO t base b w w' := by
  rcases h with ⟨g, h1, h2, h3⟩ | ⟨h1, h2⟩
  · obtain ⟨cs, hc⟩ := own_ty ho g h1
    have k := kept_of_grown h3
    refine Kept.trans_new (F := fun k => k = b ∨ base ≤ k ∧ ∃ c f, w.heap[k]? = some (.cells c t f)) (Kept.of_below x) k (fun i hi hG => ?_)
    have : g = i := by simpa using hG
    subst this
    exact .inr ⟨(World.ownsRow.lt ho g h1).1, cs, _, hc⟩
  · exact Kept.of_below (bt x (below_of_grown h1) (Nat.le_refl _))
/-- A row of another type stays. -/
theorem KpO.own {b base' size n : Nat} {w w' : World} {e : TypeId} {v : Value} {xs : List Value} (h : KpO t base b w w') (ho : w.ownsRow base' e size v n xs) (he : e ≠ t) (hb : ∀ k, v.ownBlock = some k → ¬ k = b) : w'.ownsRow base' e size v n xs :=
  own_kept ho h (fun k hk e' => by
    rcases e' with e' | ⟨_, c, f, e'⟩
    · exact hb k hk e'
    · obtain ⟨c', hc⟩ := own_ty ho k hk
      rw [hc] at e'
      injection e' with e'
      injection e' with _ e' _
      exact he e')
end
/-- A builder in a block's cells o and o + 1. -/
structure BuB (w : World) (base b o : Nat) (e : TypeId) (cs : Array Value) (l : List UInt8) : Prop where
  blk : w.heap[b]? = some (.cells cs e (0, 0))
  ge : base ≤ b
  ho : o + 1 < cs.size
  lies : liesAt Tryz.prog Tryz.prog.depth e (cs.size / Tryz.prog.cellsOf e) o 209 1 = true
  ne : e ≠ 5 ∧ e ≠ 194
  ad : cs[o]? = some (.pointer none) ∨ cs[o]? = some (.pointer (some ⟨b, o, none⟩))
  row : ∃ v, cs[o + 1]? = some v ∧ w.ownsRow base 5 1 v l.length (Lib.byteCells l)
section
variable {w w' : World} {base b o : Nat} {e : TypeId} {cs : Array Value} {l : List UInt8}
theorem BuB.apart (h : BuB w base b o e cs l) {size n : Nat} {t : TypeId} {v : Value} {xs : List Value} (hv : w.ownsRow base t size v n xs) (ht : t = 5 ∨ t = 194) (k : Nat) (hk : v.ownBlock = some k) : ¬ k = b := fun e' => by
  obtain ⟨c, hc⟩ := own_ty hv k hk
  rw [e', h.blk] at hc
  injection hc with hc
  injection hc with _ hc _
  rcases ht with rfl | rfl
  · exact h.ne.1 hc
  · exact h.ne.2 hc
theorem BuB.shape (h : BuB w base b o e cs l) : w.shape? b = some (e, cs.size) := by simp [World.shape?, h.blk]
set_option maxRecDepth 100000 in
/-- copyCheck: behind it the builder's address is its own. -/
theorem BuB.copy (h : BuB w base b o e cs l) (hb : base ≤ w.heap.size) :
    Calls Tryz.prog 253 #[.pointer (some ⟨b, o, none⟩)] w fun x w' => x = .returned (.tuple #[]) ∧ BuB w' base b o e (cs.set! o (.pointer (some ⟨b, o, none⟩))) l ∧ KpO 5 base b w w' ∧ w'.heap.size = w.heap.size := by
  obtain ⟨v, hv, hr⟩ := h.row
  have hcell : w.cell? ⟨b, o, none⟩ = cs[o]? := cell_of_row _ _ _ _ _ _ h.blk
  rcases h.ad with ha | ha
  · refine (copyFresh_any b o cs.size e w (hcell.trans ha) h.shape (by have := h.ho; omega) h.lies (frozen_of_row _ _ _ _ _ h.blk)).mono ?_
    rintro x w' ⟨rfl, rfl⟩
    have kk : KpO 5 base b w (w.setCell ⟨b, o, none⟩ (.pointer (some ⟨b, o, none⟩))) := KpO.set _
    refine ⟨rfl, ⟨?_, h.ge, by simpa using h.ho, by simpa using h.lies, h.ne, .inr ?_, v, ?_, ?_⟩, kk, by simp⟩
    · have := block_setCell' h.blk o (.pointer (some ⟨b, o, none⟩))
      exact this
    · have := h.ho
      simp [Array.set!_eq_setIfInBounds, show o < cs.size by omega]
    · simp [Array.set!_eq_setIfInBounds, Array.getElem?_setIfInBounds_ne (show o ≠ o + 1 by omega), hv]
    · exact own_kept (F := fun k => k = b) hr ((Kept.refl (fun k => k = b) w).setCell (p := ⟨b, o, none⟩) rfl _) (fun k hk => h.apart hr (.inl rfl) k hk)
  · refine (copyUsed_any b o w (hcell.trans ha)).mono ?_
    rintro x w' ⟨rfl, rfl⟩
    have e1 : cs.set! o (.pointer (some ⟨b, o, none⟩)) = cs := by
      rw [Array.set!_eq_setIfInBounds]
      apply Array.ext_getElem?
      intro i
      by_cases hi : o = i
      · subst hi
        have := h.ho
        rw [ha]
        simp [show o < cs.size by omega]
      · rw [Array.getElem?_setIfInBounds_ne hi]
    refine ⟨rfl, ?_, KpO.refl _ _, rfl⟩
    rw [e1]
    exact h
theorem BuB.cells (h : BuB w base b o e cs l) : w.cell? ⟨b, o, none⟩ = cs[o]? ∧ w.cell? ⟨b, o + 1, none⟩ = cs[o + 1]? ∧ w.frozen? ⟨b, o, none⟩ = false ∧ w.frozen? ⟨b, o + 1, none⟩ = false :=
  ⟨cell_of_row _ _ _ _ _ _ h.blk, cell_of_row _ _ _ _ _ _ h.blk, frozen_of_row _ _ _ _ _ h.blk, frozen_of_row _ _ _ _ _ h.blk⟩
/-- A new row of bytes is stored. -/
theorem BuB.put (h : BuB w base b o e cs l) {w5 w6 : World} {v v' : Value} {l' : List UInt8} (x : Below w.heap.size w w5) (h1 : w6.ownsRow base 5 1 v' l'.length (Lib.byteCells l')) (h2 : AppAt w5 w6 v v') (hr : w.ownsRow base 5 1 v l.length (Lib.byteCells l)) :
    BuB (w6.setCell ⟨b, o + 1, none⟩ v') base b o e (cs.set! (o + 1) v') l' ∧ KpO 5 base b w (w6.setCell ⟨b, o + 1, none⟩ v') ∧ w6.heap[b]? = some (.cells cs e (0, 0)) := by
  have k1 : KpO 5 base b w w6 := KpO.app x hr h2
  have hlt := lt_of_block h.blk
  have hB6 : w6.heap[b]? = some (.cells cs e (0, 0)) := by
    rcases h2 with ⟨g, g1, g2, g3⟩ | ⟨g1, g2⟩
    · have hne := h.apart hr (.inl rfl) g g1
      have hb5 : w5.heap[b]? = some (.cells cs e (0, 0)) := (x.block b hlt).trans h.blk
      exact ((kept_of_grown g3).block b (lt_of_block hb5) (fun e' => by injection e' with e'; exact hne e')).trans hb5
    · have hb5 : w5.heap[b]? = some (.cells cs e (0, 0)) := (x.block b hlt).trans h.blk
      exact ((below_of_grown g1).block b (lt_of_block hb5)).trans hb5
  have hap : ∀ k, v'.ownBlock = some k → ¬ k = b := fun k hk e' => by
    obtain ⟨c, hc⟩ := own_ty h1 k hk
    rw [e', hB6] at hc
    injection hc with hc
    injection hc with _ hc _
    exact h.ne.1 hc
  refine ⟨⟨block_setCell' hB6 _ _, h.ge, by simpa using h.ho, by simpa using h.lies, h.ne, ?_, v', ?_, ?_⟩, k1.trans (KpO.set _), hB6⟩
  · rw [Array.set!_eq_setIfInBounds, Array.getElem?_setIfInBounds_ne (show o + 1 ≠ o by omega)]
    exact h.ad
  · have := h.ho
    simp [Array.set!_eq_setIfInBounds, this]
  · exact own_kept (F := fun k => k = b) h1 ((Kept.refl (fun k => k = b) w6).setCell (p := ⟨b, o + 1, none⟩) rfl _) hap
theorem byte_new (w : World) (c : UInt8) : ∀ (j : Nat) (u : Value), [Value.int .u8 (c.toNat : Int)][j]? = some u → (w.alloc (.cells #[.int .u8 (c.toNat : Int)] 5)).cell? ((⟨w.heap.size, 0, none⟩ : Addr).add j) = some u := fun j u hu => by
  have hB := heap_alloc_new w (.cells #[.int .u8 (c.toNat : Int)] 5)
  rw [show (⟨w.heap.size, 0, none⟩ : Addr).add j = ⟨w.heap.size, 0 + j, none⟩ by unfold Addr.add; split <;> simp_all, cell_of_row _ _ _ _ _ _ hB]
  simpa using hu
set_option maxHeartbeats 2000000 in
set_option maxRecDepth 100000 in
/-- WriteByte. -/
theorem BuB.byte (h : BuB w base b o e cs l) (c : UInt8) (hb : base ≤ w.heap.size) (hl : l.length ≤ 140737488351232) :
    Calls Tryz.prog 201 #[.pointer (some ⟨b, o, none⟩), .int .u8 (c.toNat : Int)] w fun x w' => x = .returned .nilIface ∧ (∃ v', BuB w' base b o e ((cs.set! o (.pointer (some ⟨b, o, none⟩))).set! (o + 1) v') (l ++ [c])) ∧ KpO 5 base b w w' := by
  obtain ⟨i5, hi5, hz50, hz51, hz52⟩ := info_parts Tryz.info5n
  have HC := hide (h.copy hb)
  clear h
  go_enter Tryz.func201, Tryz.ntmps201
  go_upto_region 2 with (go_at_call 253; refine HC.out.mono ?_; rintro x w1 ⟨rfl, h1, k1, hs1⟩; have HB := hide h1; have HK := hide k1; have HS := hide hs1; clear h1 k1 hs1)
  clear HC
  obtain ⟨v, hv, hr⟩ := HB.out.row
  obtain ⟨d0, d1, d2, d3⟩ := HB.out.cells
  rw [hv] at d1
  have HV := hide hv
  have HR := hide hr
  have P1 := hide (own_below hr (al (Below.refl _ _) (.cells #[.int .u8 (c.toNat : Int)] 5)))
  have P2 := hide (byte_new w1 c)
  have P3 : Hid (base ≤ (w1.alloc (.cells #[.int .u8 (c.toNat : Int)] 5)).heap.size) := by
    have := (al (Below.refl w1.heap.size w1) (.cells #[.int .u8 (c.toNat : Int)] 5)).size
    have h2 := HS.out
    unfold Hid; omega
  have HPU : Hid (∀ v' w6, w6.ownsRow base 5 1 v' (l.length + 1) (Lib.byteCells l ++ [.int .u8 (c.toNat : Int)]) → AppAt (w1.alloc (.cells #[.int .u8 (c.toNat : Int)] 5)) w6 v v' → BuB (w6.setCell ⟨b, o + 1, none⟩ v') base b o e ((cs.set! o (.pointer (some ⟨b, o, none⟩))).set! (o + 1) v') (l ++ [c]) ∧ KpO 5 base b w1 (w6.setCell ⟨b, o + 1, none⟩ v') ∧ w6.frozen? ⟨b, o + 1, none⟩ = false ∧ (∃ y, w6.cell? ⟨b, o + 1, none⟩ = some y)) := fun v' w6 q1 q2 => by
    have e1 : Lib.byteCells l ++ [.int .u8 (c.toNat : Int)] = Lib.byteCells (l ++ [c]) := by simp [Lib.byteCells]
    have := HB.out.put (l' := l ++ [c]) (al (Below.refl _ _) _) (by rw [← e1]; simpa using q1) q2 HR.out
    have hc := cell_of_row _ _ (o + 1) _ _ _ this.2.2
    rw [HV.out] at hc
    exact ⟨this.1, this.2.1, frozen_of_row _ _ _ _ _ this.2.2, v, hc⟩
  clear hr hv
  go_wp2_with (at_builtin; refine wpList_append_view rfl (.tmp 11) (.tmp 13) 86 rfl base 5 i5 (.int .u8 0) 1 1 Tryz.underlying86 hi5 hz50 hz51 hz52 rfl (by decide) _ l.length _ rfl P1.out ⟨w1.heap.size, 0, none⟩ 1 1 [(.int .u8 (c.toNat : Int))] rfl rfl P2.out (by simp [Value.oneCell']) (by decide) (by unfold maxLen; omega) (by omega) P3.out ?_; intro v6 w6 q1 q2; obtain ⟨ao6, cp6, he6, _⟩ := own_shape q1; subst he6; obtain ⟨hB, hK, hF, y, hy⟩ := HPU.out _ w6 q1 q2; have HB2 := hide hB; have HK2 := hide hK; clear q1 q2 hB hK)
  go_ret
  exact ⟨rfl, ⟨_, HB2.out⟩, HK.out.trans HK2.out⟩
end
end Go.Proofs.YthgikaklcglpiaaGreatDoor.L9
/-
  strings.Builder's WriteRune (of a rune below 128), Len, Reset, String, at an address that lies in whatever block. Conditions: as in the text before.
-/
namespace Go.Proofs.YthgikaklcglpiaaGreatDoor.L9
open Go.RowKit Go.Lib

section
variable {w w' : World} {base b o : Nat} {e : TypeId} {cs : Array Value} {l : List UInt8}
set_option maxHeartbeats 2000000 in
set_option maxRecDepth 100000 in
theorem appendAscii_any (c : UInt8) (hc : c.toNat < 128) (v : Value) (w : World) (hr : w.ownsRow base 5 1 v l.length (Lib.byteCells l)) (hb : base ≤ w.heap.size) (hl : l.length ≤ 140737488351232) :
    Calls Tryz.prog 306 #[v, .int .i32 (c.toNat : Int)] w fun x w' => ∃ v' w5, x = .returned v' ∧ Below w.heap.size w w5 ∧ w'.ownsRow base 5 1 v' (l.length + 1) (Lib.byteCells (l ++ [c])) ∧ AppAt w5 w' v v' := by
  obtain ⟨i5, hi5, hz50, hz51, hz52⟩ := info_parts Tryz.info5n
  have P1 := hide (own_below hr (al (Below.refl _ _) (.cells #[.int .u8 (c.toNat : Int)] 5)))
  have P2 := hide (byte_new w c)
  have X5 := hide (al (Below.refl w.heap.size w) (.cells #[.int .u8 (c.toNat : Int)] 5))
  have P3 : Hid (base ≤ (w.alloc (.cells #[.int .u8 (c.toNat : Int)] 5)).heap.size) := by
    have := X5.out.size
    unfold Hid; omega
  have e1 : Hid (Lib.byteCells l ++ [.int .u8 (c.toNat : Int)] = Lib.byteCells (l ++ [c])) := by simp [Lib.byteCells, Hid]
  obtain ⟨ao, cp, he, _⟩ := own_shape hr
  subst he
  have h1 : IntKind.u32.wrap (c.toNat : Int) = (c.toNat : Int) := by simp [IntKind.wrap, IntKind.bits, IntKind.signed]; omega
  have h2 : IntKind.u8.wrap (c.toNat : Int) = (c.toNat : Int) := by simp [IntKind.wrap, IntKind.bits, IntKind.signed]; omega
  have h3 : (c.toNat : Int) ≤ 127 := by omega
  clear hr
  generalize hz : (c.toNat : Int) = z at *
  clear hz
  go_enter Tryz.func306, Tryz.ntmps306
  go_wp2_with (at_builtin; refine wpList_append_view rfl (.tmp 8) (.tmp 11) 86 rfl base 5 i5 (.int .u8 0) 1 1 Tryz.underlying86 hi5 hz50 hz51 hz52 rfl (by decide) _ l.length _ rfl P1.out ⟨w.heap.size, 0, none⟩ 1 1 [(.int .u8 z)] rfl rfl P2.out (by simp [Value.oneCell']) (by decide) (by unfold maxLen; omega) (by omega) P3.out ?_; intro v6 w6 q1 q2; have Q1 := hide q1; have Q2 := hide q2; clear q1 q2)
  go_ret
  exact ⟨v6, _, rfl, X5.out, by rw [← e1.out]; exact Q1.out, Q2.out⟩
set_option maxHeartbeats 2000000 in
set_option maxRecDepth 100000 in
/-- WriteRune. -/
theorem BuB.rune (h : BuB w base b o e cs l) (c : UInt8) (hc : c.toNat < 128) (hb : base ≤ w.heap.size) (hl : l.length ≤ 140737488351232) :
    Calls Tryz.prog 257 #[.pointer (some ⟨b, o, none⟩), .int .i32 (c.toNat : Int)] w fun x w' => x = .returned (.tuple #[.int .i64 1, .nilIface]) ∧ (∃ v', BuB w' base b o e ((cs.set! o (.pointer (some ⟨b, o, none⟩))).set! (o + 1) v') (l ++ [c])) ∧ KpO 5 base b w w' := by
  have HC := hide (h.copy hb)
  clear h
  go_enter Tryz.func257, Tryz.ntmps257
  go_upto_region 2 with (go_at_call 253; refine HC.out.mono ?_; rintro x w1 ⟨rfl, h1, k1, hs1⟩; have HB := hide h1; have HK := hide k1; have HS := hide hs1; clear h1 k1 hs1)
  clear HC
  obtain ⟨v, hv, hr⟩ := HB.out.row
  obtain ⟨d0, d1, d2, d3⟩ := HB.out.cells
  rw [hv] at d1
  have HV := hide hv
  have HR := hide hr
  obtain ⟨ao, cp, he, _⟩ := own_shape hr
  subst he
  have HA := hide (appendAscii_any c hc _ w1 hr (by have := HS.out; omega) hl)
  have HPU : Hid (∀ v' w5 w6, Below w1.heap.size w1 w5 → w6.ownsRow base 5 1 v' (l.length + 1) (Lib.byteCells (l ++ [c])) → AppAt w5 w6 (.slice ao l.length cp) v' → BuB (w6.setCell ⟨b, o + 1, none⟩ v') base b o e ((cs.set! o (.pointer (some ⟨b, o, none⟩))).set! (o + 1) v') (l ++ [c]) ∧ KpO 5 base b w1 (w6.setCell ⟨b, o + 1, none⟩ v') ∧ w6.frozen? ⟨b, o + 1, none⟩ = false ∧ (∃ y, w6.cell? ⟨b, o + 1, none⟩ = some y)) := fun v' w5 w6 x5 q1 q2 => by
    have := HB.out.put (l' := l ++ [c]) x5 (by simpa using q1) q2 HR.out
    have hc := cell_of_row _ _ (o + 1) _ _ _ this.2.2
    rw [HV.out] at hc
    exact ⟨this.1, this.2.1, frozen_of_row _ _ _ _ _ this.2.2, _, hc⟩
  have f1 : IntKind.i64.wrap ((l.length : Int) + 1 - (l.length : Int)) = 1 := by rw [show (l.length : Int) + 1 - (l.length : Int) = 1 by omega]; rfl
  have f2 : IntKind.i64.wrap 1 = 1 := rfl
  clear hr hv
  go_upto_region 4 with (go_at_call 306; refine HA.out.mono ?_; rintro x w6 ⟨v', w5, rfl, x5, q1, q2⟩; obtain ⟨ao6, cp6, he6, _⟩ := own_shape q1; subst he6; obtain ⟨hB, hK, hF, y, hy⟩ := HPU.out _ w5 w6 x5 q1 q2; have HB2 := hide hB; have HK2 := hide hK; clear x5 q1 q2 hB hK)
  clear HPU HA d0 d1 d2 d3 hF hy
  obtain ⟨w7, hw7⟩ : ∃ w7, w7 = w6.setCell ⟨b, o + 1, none⟩ (.slice ao6 (l.length + 1) cp6) := ⟨_, rfl⟩
  rw [← hw7] at HB2 HK2 ⊢
  clear hw7
  obtain ⟨d0, d1, d2, d3⟩ := HB2.out.cells
  have h9 := HB2.out.ho
  simp only [Array.set!_eq_setIfInBounds, Array.size_setIfInBounds] at h9
  rw [Array.set!_eq_setIfInBounds, Array.getElem?_setIfInBounds_self_of_lt (by simpa using h9)] at d1
  clear d0 h9
  go_wp2
  go_ret2
  exact ⟨rfl, ⟨_, HB2.out⟩, HK.out.trans HK2.out⟩
set_option maxRecDepth 100000 in
/-- Len. -/
theorem BuB.len (h : BuB w base b o e cs l) : Calls Tryz.prog 296 #[.pointer (some ⟨b, o, none⟩)] w fun x w' => x = .returned (.int .i64 (l.length : Int)) ∧ w' = w := by
  obtain ⟨v, hv, hr⟩ := h.row
  obtain ⟨d0, d1, d2, d3⟩ := h.cells
  rw [hv] at d1
  obtain ⟨ao, cp, he, _⟩ := own_shape hr
  subst he
  clear hv hr h
  go_enter Tryz.func296, Tryz.ntmps296
  go_wp2
  go_ret
  exact ⟨rfl, rfl⟩
end
end Go.Proofs.YthgikaklcglpiaaGreatDoor.L9
/-
  strings.Builder's String at an address that lies in whatever block; Reset whatever lies there. Conditions: as in the texts before; a builder without bytes has no row.
-/
namespace Go.Proofs.YthgikaklcglpiaaGreatDoor.L9
open Go.RowKit Go.Lib

theorem KpO.freeze {base b g n : Nat} {w : World} {c : Array Value} {f : Nat × Nat} (hbg : base ≤ g) (hg : w.heap[g]? = some (.cells c 5 f)) : KpO 5 base b w (w.freeze ⟨g, 0, none⟩ n) := by
  unfold World.freeze
  split
  · exact KpO.refl _ _
  · refine ⟨rfl, rfl, rfl, by simp, fun k hk hF => ?_⟩
    simp only [Array.getElem?_modify]
    by_cases e : g = k
    · subst e
      exact absurd (.inr ⟨hbg, c, f, hg⟩) hF
    · rw [if_neg e]
theorem freeze_size (w : World) (a : Addr) (n : Nat) : (w.freeze a n).heap.size = w.heap.size := by
  unfold World.freeze
  split
  · rfl
  · simp
/-- A builder whose row need not be its own. -/
structure BuC (w : World) (base b o : Nat) (e : TypeId) (cs : Array Value) : Prop where
  blk : w.heap[b]? = some (.cells cs e (0, 0))
  ge : base ≤ b
  ho : o + 1 < cs.size
  lies : liesAt Tryz.prog Tryz.prog.depth e (cs.size / Tryz.prog.cellsOf e) o 209 1 = true
  ne : e ≠ 5 ∧ e ≠ 194
section
variable {w w' : World} {base b o : Nat} {e : TypeId} {cs : Array Value} {l : List UInt8}
theorem BuB.toC (h : BuB w base b o e cs l) : BuC w base b o e cs := ⟨h.blk, h.ge, h.ho, h.lies, h.ne⟩
set_option maxHeartbeats 2000000 in
set_option maxRecDepth 100000 in
/-- String. -/
theorem BuB.string (h : BuB w base b o e cs l) (h0 : l = [] → cs[o + 1]? = some (.slice none 0 0)) :
    Calls Tryz.prog 194 #[.pointer (some ⟨b, o, none⟩)] w fun x w' => x = .returned (.string ⟨l.toArray⟩) ∧ BuC w' base b o e cs ∧ KpO 5 base b w w' ∧ w.heap.size ≤ w'.heap.size := by
  obtain ⟨v, hv, hr⟩ := h.row
  obtain ⟨-, d1, -, -⟩ := h.cells
  by_cases hl : l = []
  · subst hl
    rw [h0 rfl] at d1
    have c1 : w.drew.cell? ⟨b, o + 1, none⟩ = some (.slice none 0 0) := d1
    have hUS : ∀ (W : World) (q : Option Addr), (Builtin.unsafeString_ #[238, 3] 9 #[.pointer q, .int .i64 0]).run Tryz.prog W = .ok (.string .empty) W := fun W q => Lib.run_unsafeString_none W _ _ _ q
    have hSD : (Builtin.unsafeSliceData_ #[86] 238 #[.slice none 0 0]).run Tryz.prog w.drew = .ok (.pointer none) w.drew := rfl
    have HC := hide h.toC
    have HD : Hid (KpO 5 base b w w.drew) := Kept.drew (KpO.refl b w)
    have HC2 : Hid (BuC w.drew base b o e cs) := ⟨HC.out.blk, HC.out.ge, HC.out.ho, HC.out.lies, HC.out.ne⟩
    clear hv hr h h0 HC
    go_enter Tryz.func194, Tryz.ntmps194
    go_wp2
    go_region
    all_goals
      go_wp2
      go_ret
      exact ⟨rfl, HC2.out, HD.out, Nat.le_refl _⟩
  · have hn : 0 < l.length := List.length_pos_iff.2 hl
    obtain ⟨g, cap, cur, hv', hbg, hg, hnc, hcm, hcs, htake⟩ : ∃ g cap cur, v = .slice (some ⟨g, 0, none⟩) l.length cap ∧ base ≤ g ∧ w.heap[g]? = some (.cells cur 5 (0, 0)) ∧ l.length ≤ cap ∧ cap ≤ maxLen ∧ cur.size = cap * 1 ∧ cur.toList.take (l.length * 1) = Lib.byteCells l := by
      rcases hr.2 with ⟨_, hz⟩ | ⟨g, cap, cur, q1, q2, q3, q4, q5, q6, q7⟩
      · omega
      · exact ⟨g, cap, cur, q1, q2, q3, q4, q5, q6, q7⟩
    subst hv'
    rw [hv] at d1
    have c1 : w.drew.cell? ⟨b, o + 1, none⟩ = some (.slice (some ⟨g, 0, none⟩) l.length cap) := d1
    have hSD : (Builtin.unsafeSliceData_ #[86] 238 #[.slice (some ⟨g, 0, none⟩) l.length cap]).run Tryz.prog w.drew = .ok (.pointer (some ⟨g, 0, none⟩)) w.drew := Lib.run_unsafeSliceData_row _ _ _ _ _ _ (by omega)
    have hUS : (Builtin.unsafeString_ #[238, 3] 9 #[.pointer (some ⟨g, 0, none⟩), .int .i64 l.length]).run Tryz.prog w.drew = .ok (.string ⟨l.toArray⟩) (w.drew.freeze ⟨g, 0, none⟩ l.length) := by
      refine Lib.run_unsafeString_row w.drew 238 3 9 5 Tryz.underlying238 (by kernel_rfl) g cur.size (by have hg' : w.drew.heap[g]? = some (.cells cur 5 (0, 0)) := hg; simp [World.shape?, hg']) l hl (by omega) (by unfold maxLen at hcm; omega) ?_
      intro j x hx
      have := hr.cells (g := g) rfl j (.int .u8 x.toNat) (by simp [Lib.byteCells, hx])
      exact this
    have HD : Hid (KpO 5 base b w (w.drew.freeze ⟨g, 0, none⟩ l.length)) := (Kept.drew (KpO.refl b w) : KpO 5 base b w w.drew).trans (KpO.freeze (w := w.drew) hbg hg)
    have hgb := h.apart hr (.inl rfl) g rfl
    have HC2 : Hid (BuC (w.drew.freeze ⟨g, 0, none⟩ l.length) base b o e cs) := by
      refine ⟨?_, h.ge, h.ho, h.lies, h.ne⟩
      have hb : w.drew.heap[b]? = some (.cells cs e (0, 0)) := h.blk
      unfold World.freeze
      split
      · exact hb
      · simp only [Array.getElem?_modify]
        rw [if_neg hgb]
        exact hb
    have HS : Hid (w.heap.size ≤ (w.drew.freeze ⟨g, 0, none⟩ l.length).heap.size) := by unfold Hid; rw [freeze_size]; exact Nat.le_refl _
    clear hv hr h h0 hbg hg hcm hcs htake
    go_enter Tryz.func194, Tryz.ntmps194
    go_wp2
    go_region
    all_goals
      go_wp2
      go_ret
      exact ⟨rfl, HC2.out, HD.out, HS.out⟩
end
end Go.Proofs.YthgikaklcglpiaaGreatDoor.L9
