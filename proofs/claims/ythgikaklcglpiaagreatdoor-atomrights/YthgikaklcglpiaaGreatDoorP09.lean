/-
  The writer of sources in memory; strings.Builder's WriteString in it. Condition: what is written is not longer than a process can hold.
-/
import Derived.Lib.AppendStr
import Derived.Test.YthgikaklcglpiaaGreatDoorP08
import Derived.Test.YthgikaklcglpiaaGreatDoorP07
namespace Go.Proofs.YthgikaklcglpiaaGreatDoor.L9
open Go.RowKit Go.Lib

theorem cells_str (l : By) : Lib.strCells ⟨l.toArray⟩ = Lib.byteCells l := by
  unfold Lib.strCells Lib.byteCells
  simp
theorem wpList_append_str {P : Program} {w : World} {ops : Array Oper} {rest : List Oper} {o : Oper} {a : Act} {Q : Exit → Act → World → Prop} (hgd : o.guard = none) (sl x : Operand) (t u : TypeId)
    (ho : o.op = .call { callee := .builtin .append, args := #[sl, x], argTypes := #[t, u] })
    (base : Nat) (e : TypeId) (i : TypeInfo) (ht : P.underlying t = some (.slice e)) (hu : P.underlying u = some .string) (hi : P.info? e = some i) (hz : i.zero = some (.int .u8 0))
    (hsize : i.size = 1) (hby : i.bytes = 1)
    (v : Value) (l : By) (hs : a.eval sl = v) (hown : w.ownsRow base e 1 v l.length (Lib.byteCells l)) (s : By) (hx : a.eval x = .string ⟨s.toArray⟩)
    (h63 : l.length + s.length ≤ 140737488355328) (hbase : base ≤ w.heap.size)
    (h : ∀ v' w', w'.ownsRow base e 1 v' (l ++ s).length (Lib.byteCells (l ++ s)) → w.grownBy w' v.ownBlock → (v' = .slice none 0 0 ↔ v = .slice none 0 0 ∧ s = []) → wpList P ops Q rest (a.put o.dst v') w') :
    wpList P ops Q (o :: rest) a w := by
  have hsz : (⟨s.toArray⟩ : ByteArray).size = s.length := by simp [ByteArray.size]
  obtain ⟨v', w', hr, h2, h3, h4⟩ := run_append_own_string (P := P) w base t u o.type e i ht hu hi hz hsize hby v l.length (Lib.byteCells l) hown ⟨s.toArray⟩ (by rw [hsz]; unfold maxLen; omega) (by rw [hsz]; exact h63) hbase
  refine wpList_plain hgd fun _ hK => ?_
  unfold Oper.wp execOp
  simp only [ho, resolve, invoke, builtin, Sem.run_bind, Sem.run_pure, Result.andThen_ok, List.map_toArray, List.map_cons, List.map_nil, hs, hx, hr]
  refine hK _ _ (h v' w' ?_ h3 ?_)
  · rw [hsz, cells_str] at h2
    rw [List.length_append, show Lib.byteCells (l ++ s) = Lib.byteCells l ++ Lib.byteCells s by simp [Lib.byteCells]]
    exact h2
  · rw [h4, hsz]
    exact ⟨fun h => ⟨h.1, List.eq_nil_of_length_eq_zero h.2⟩, fun h => ⟨h.1, by rw [h.2]; rfl⟩⟩
section
variable {w : World} {base b o : Nat} {e : TypeId} {cs : Array Value} {l : List UInt8}
theorem BuB.put2 (h : BuB w base b o e cs l) {w6 : World} {v v' : Value} {l' : List UInt8} (h1 : w6.ownsRow base 5 1 v' l'.length (Lib.byteCells l')) (h2 : w.grownBy w6 v.ownBlock) (hr : w.ownsRow base 5 1 v l.length (Lib.byteCells l)) :
    BuB (w6.setCell ⟨b, o + 1, none⟩ v') base b o e (cs.set! (o + 1) v') l' ∧ KpO 5 base b w (w6.setCell ⟨b, o + 1, none⟩ v') ∧ w6.heap[b]? = some (.cells cs e (0, 0)) := by
  have k0 := kept_of_grown h2
  have k1 : KpO 5 base b w w6 := k0.mono (fun k hk => by
    obtain ⟨c, hc⟩ := own_ty hr k hk
    exact .inr ⟨(World.ownsRow.lt hr k hk).1, c, _, hc⟩)
  have hB6 : w6.heap[b]? = some (.cells cs e (0, 0)) := (k0.block b (lt_of_block h.blk) (fun e' => h.apart hr (.inl rfl) b e' rfl)).trans h.blk
  have hap : ∀ k, v'.ownBlock = some k → ¬ k = b := fun k hk e' => by
    obtain ⟨c, hc⟩ := own_ty h1 k hk
    rw [e', hB6] at hc
    injection hc with hc
    injection hc with _ hc _
    exact h.ne.1 hc
  refine ⟨⟨block_setCell' hB6 _ _, h.ge, by simpa using h.ho, by simpa using h.lies, h.ne, ?_, v', ?_, ?_⟩, k1.trans (KpO.set _), hB6⟩
  · rw [Array.set!_eq_setIfInBounds, Array.getElem?_setIfInBounds_ne (show o + 1 ≠ o by omega)]
    exact h.ad
  · have := h.ho
    simp [Array.set!_eq_setIfInBounds, this]
  · exact own_kept (F := fun k => k = b) h1 ((Kept.refl (fun k => k = b) w6).setCell (p := ⟨b, o + 1, none⟩) rfl _) hap
set_option maxHeartbeats 2000000 in
set_option maxRecDepth 100000 in
/-- WriteString. -/
theorem BuB.str (h : BuB w base b o e cs l) (t : By) (hb : base ≤ w.heap.size) (hl : l.length + t.length ≤ 140737488351232) (h0 : l = [] → cs[o + 1]? = some (.slice none 0 0)) :
    Calls Tryz.prog 200 #[.pointer (some ⟨b, o, none⟩), .string ⟨t.toArray⟩] w fun x w' => x = .returned (.tuple #[.int .i64 (t.length : Int), .nilIface]) ∧ (∃ v', BuB w' base b o e ((cs.set! o (.pointer (some ⟨b, o, none⟩))).set! (o + 1) v') (l ++ t) ∧ (l ++ t = [] → v' = .slice none 0 0)) ∧ KpO 5 base b w w' := by
  obtain ⟨i5, hi5, hz50, hz51, hz52⟩ := info_parts Tryz.info5n
  have HC := hide (h.copy hb)
  have H0 : Hid (l = [] → (cs.set! o (.pointer (some ⟨b, o, none⟩)))[o + 1]? = some (.slice none 0 0)) := fun e => by
    rw [Array.set!_eq_setIfInBounds, Array.getElem?_setIfInBounds_ne (by omega)]
    exact h0 e
  clear h h0
  have hsz : (⟨t.toArray⟩ : ByteArray).size = t.length := by simp [ByteArray.size]
  go_enter Tryz.func200, Tryz.ntmps200
  go_upto_region 2 with (go_at_call 253; refine HC.out.mono ?_; rintro x w1 ⟨rfl, h1, k1, hs1⟩; have HB := hide h1; have HK := hide k1; have HS := hide hs1; clear h1 k1 hs1)
  clear HC
  obtain ⟨v, hv, hr⟩ := HB.out.row
  obtain ⟨d0, d1, d2, d3⟩ := HB.out.cells
  rw [hv] at d1
  have HV := hide hv
  have HR := hide hr
  have P3 : Hid (base ≤ w1.heap.size) := by
    have h2 := HS.out
    unfold Hid; omega
  have HPU : Hid (∀ v' w6, w6.ownsRow base 5 1 v' (l ++ t).length (Lib.byteCells (l ++ t)) → w1.grownBy w6 v.ownBlock → BuB (w6.setCell ⟨b, o + 1, none⟩ v') base b o e ((cs.set! o (.pointer (some ⟨b, o, none⟩))).set! (o + 1) v') (l ++ t) ∧ KpO 5 base b w1 (w6.setCell ⟨b, o + 1, none⟩ v') ∧ w6.frozen? ⟨b, o + 1, none⟩ = false ∧ (∃ y, w6.cell? ⟨b, o + 1, none⟩ = some y)) := fun v' w6 q1 q2 => by
    have := HB.out.put2 (l' := l ++ t) q1 q2 HR.out
    have hc := cell_of_row _ _ (o + 1) _ _ _ this.2.2
    rw [HV.out] at hc
    exact ⟨this.1, this.2.1, frozen_of_row _ _ _ _ _ this.2.2, v, hc⟩
  have HN : Hid (∀ v' : Value, (v' = .slice none 0 0 ↔ v = .slice none 0 0 ∧ t = []) → l ++ t = [] → v' = .slice none 0 0) := fun v' q hn => by
    obtain ⟨e1, e2⟩ := List.append_eq_nil_iff.1 hn
    refine q.2 ⟨?_, e2⟩
    have := H0.out e1
    rw [HV.out] at this
    exact Option.some.inj this
  clear hr hv
  go_wp2_with (at_builtin; refine wpList_append_str rfl (.tmp 12) (.tmp 13) 86 9 rfl base 5 i5 Tryz.underlying86 Tryz.underlying9 hi5 hz50 hz51 hz52 _ l rfl HR.out t rfl (by omega) P3.out ?_; intro v6 w6 q1 q2 q3; obtain ⟨ao6, cp6, he6, _⟩ := own_shape q1; have HQ := hide (HN.out _ q3); subst he6; obtain ⟨hB, hK, hF, y, hy⟩ := HPU.out _ w6 q1 q2; have HB2 := hide hB; have HK2 := hide hK; clear q1 q2 q3 hB hK)
  go_ret2
  simp only [List.length_append] at HB2 HK2 HQ
  exact ⟨rfl, ⟨_, HB2.out, HQ.out⟩, HK.out.trans HK2.out⟩
end
/-- The writer: what it has written, whether the last token needs no blank. -/
structure WrA (w : World) (base wp : Nat) (s : By) (pt : Bool) : Prop where
  at_ : ∃ cs, BuB w base wp 0 211 cs s ∧ cs.size = 3 ∧ cs[2]? = some (.bool pt) ∧ (s = [] → cs[1]? = some (.slice none 0 0))
  le : base ≤ w.heap.size
  few : s.length ≤ 8001
theorem WrA.ge {w : World} {base wp : Nat} {s : By} {pt : Bool} (h : WrA w base wp s pt) : base ≤ wp := by
  obtain ⟨cs, h1, _⟩ := h.at_
  exact h1.ge
theorem WrA.below {w w' : World} {base wp : Nat} {s : By} {pt : Bool} (h : WrA w base wp s pt) (x : Below w.heap.size w w') : WrA w' base wp s pt := by
  obtain ⟨cs, h1, h2, h3, h4⟩ := h.at_
  obtain ⟨v, hv, hr⟩ := h1.row
  exact ⟨⟨cs, ⟨(x.block wp (lt_of_block h1.blk)).trans h1.blk, h1.ge, h1.ho, h1.lies, h1.ne, h1.ad, v, hv, own_below hr x⟩, h2, h3, h4⟩, Nat.le_trans h.le x.size, h.few⟩
theorem WrA.cell {w : World} {base wp : Nat} {s : By} {pt : Bool} (h : WrA w base wp s pt) : w.cell? ⟨wp, 2, none⟩ = some (.bool pt) ∧ w.frozen? ⟨wp, 2, none⟩ = false := by
  obtain ⟨cs, h1, h2, h3, h4⟩ := h.at_
  exact ⟨by rw [cell_of_row _ _ _ _ _ _ h1.blk]; exact h3, frozen_of_row _ _ _ _ _ h1.blk⟩
theorem WrA.set {w : World} {base wp : Nat} {s : By} {pt : Bool} (h : WrA w base wp s pt) (q : Bool) : WrA (w.setCell ⟨wp, 2, none⟩ (.bool q)) base wp s q ∧ KpO 5 base wp w (w.setCell ⟨wp, 2, none⟩ (.bool q)) := by
  obtain ⟨cs, h1, h2, h3, h4⟩ := h.at_
  obtain ⟨v, hv, hr⟩ := h1.row
  have kk : Kept (fun k => k = wp) w (w.setCell ⟨wp, 2, none⟩ (.bool q)) := Kept.setCell (F := fun k => k = wp) (p := ⟨wp, 2, none⟩) (Kept.refl _ _) rfl _
  refine ⟨⟨⟨cs.set! 2 (.bool q), ⟨block_setCell' h1.blk 2 _, h1.ge, by simpa using h1.ho, by simpa using h1.lies, h1.ne, ?_, v, ?_, own_kept hr kk (fun k hk => h1.apart hr (.inl rfl) k hk)⟩, by simp [h2], ?_, ?_⟩, by simpa using h.le, h.few⟩, KpO.set _⟩
  · rw [Array.set!_eq_setIfInBounds, Array.getElem?_setIfInBounds_ne (by omega)]
    exact h1.ad
  · rw [Array.set!_eq_setIfInBounds, Array.getElem?_setIfInBounds_ne (by omega)]
    exact hv
  · simp [Array.set!_eq_setIfInBounds, h2]
  · rw [Array.set!_eq_setIfInBounds, Array.getElem?_setIfInBounds_ne (by omega)]
    exact h4
theorem WrA.str {w : World} {base wp : Nat} {s : By} {pt : Bool} (h : WrA w base wp s pt) (t : By) (ht : (s ++ t).length ≤ 8001) :
    Calls Tryz.prog 200 #[.pointer (some ⟨wp, 0, none⟩), .string ⟨t.toArray⟩] w fun x w' => x = .returned (.tuple #[.int .i64 (t.length : Int), .nilIface]) ∧ WrA w' base wp (s ++ t) pt ∧ KpO 5 base wp w w' := by
  obtain ⟨cs, h1, h2, h3, h4⟩ := h.at_
  rw [List.length_append] at ht
  refine (h1.str t h.le (by omega) h4).mono ?_
  rintro x w' ⟨rfl, ⟨v', hB, hn⟩, hk⟩
  have hbel := hk.to_below h1.ge h.le
  refine ⟨rfl, ⟨⟨_, hB, by simp [h2], ?_, fun e => ?_⟩, Nat.le_trans h.le hbel.size, by rw [List.length_append]; exact ht⟩, hk⟩
  · rw [Array.set!_eq_setIfInBounds, Array.getElem?_setIfInBounds_ne (by omega), Array.set!_eq_setIfInBounds, Array.getElem?_setIfInBounds_ne (by omega)]
    exact h3
  · rw [hn e]
    simp [Array.set!_eq_setIfInBounds, h2]
theorem WrA.byte {w : World} {base wp : Nat} {s : By} {pt : Bool} (h : WrA w base wp s pt) (c : UInt8) (ht : s.length < 8001) :
    Calls Tryz.prog 201 #[.pointer (some ⟨wp, 0, none⟩), .int .u8 (c.toNat : Int)] w fun x w' => x = .returned .nilIface ∧ WrA w' base wp (s ++ [c]) pt ∧ KpO 5 base wp w w' := by
  obtain ⟨cs, h1, h2, h3, h4⟩ := h.at_
  refine (h1.byte c h.le (by omega)).mono ?_
  rintro x w' ⟨rfl, ⟨v', hB⟩, hk⟩
  have hbel := hk.to_below h1.ge h.le
  refine ⟨rfl, ⟨⟨_, hB, by simp [h2], ?_, fun e => by simp at e⟩, Nat.le_trans h.le hbel.size, by simp; omega⟩, hk⟩
  rw [Array.set!_eq_setIfInBounds, Array.getElem?_setIfInBounds_ne (by omega), Array.set!_eq_setIfInBounds, Array.getElem?_setIfInBounds_ne (by omega)]
  exact h3
theorem WrA.len {w : World} {base wp : Nat} {s : By} {pt : Bool} (h : WrA w base wp s pt) : Calls Tryz.prog 296 #[.pointer (some ⟨wp, 0, none⟩)] w fun x w' => x = .returned (.int .i64 (s.length : Int)) ∧ w' = w := by
  obtain ⟨cs, h1, _⟩ := h.at_
  exact h1.len
theorem WrA.string {w : World} {base wp : Nat} {s : By} {pt : Bool} (h : WrA w base wp s pt) : Calls Tryz.prog 194 #[.pointer (some ⟨wp, 0, none⟩)] w fun x w' => x = .returned (.string ⟨s.toArray⟩) ∧ Below base w w' := by
  obtain ⟨cs, h1, h2, h3, h4⟩ := h.at_
  refine (h1.string h4).mono ?_
  rintro x w' ⟨rfl, _, hk, _⟩
  exact ⟨rfl, hk.to_below h1.ge h.le⟩
theorem KpO.of_below {base wp : Nat} {w w' : World} (h : Below w.heap.size w w') : KpO 5 base wp w w' := Kept.of_below h
/-- A block of another type stays. -/
theorem KpO.box {base wp k : Nat} {w w' : World} (h : KpO 5 base wp w w') {cs : Array Value} {t : TypeId} {f : Nat × Nat} (hk : w.heap[k]? = some (.cells cs t f)) (ht : t ≠ 5) (hw : k ≠ wp) : w'.heap[k]? = some (.cells cs t f) :=
  (h.block k (lt_of_block hk) (fun hf => by
    rcases hf with e | ⟨_, c, f', e⟩
    · exact hw e
    · rw [hk] at e
      injection e with e
      injection e with _ e _
      exact ht e)).trans hk
theorem WrA.ne {w : World} {base wp k : Nat} {s : By} {pt : Bool} (h : WrA w base wp s pt) {cs : Array Value} {t : TypeId} {f : Nat × Nat} (hk : w.heap[k]? = some (.cells cs t f)) (ht : t ≠ 211) : k ≠ wp := fun e => by
  obtain ⟨cs', h1, _⟩ := h.at_
  rw [e, h1.blk] at hk
  injection hk with hk
  injection hk with _ hk _
  exact ht hk.symm
end Go.Proofs.YthgikaklcglpiaaGreatDoor.L9
/-
  The writer's mustHold, other, word, name by their contracts, where they go well. Condition: what is written fits.
-/

namespace Go.Proofs.YthgikaklcglpiaaGreatDoor.L9
open Go.RowKit Go.Lib

/-- What the writer comes to. -/
abbrev WS := By × Bool
def othW (t : By) (s : WS) : Option WS := if (s.1 ++ t).length ≤ 8000 then some (s.1 ++ t, true) else none
def blkW (s : WS) : By := if s.2 = true then s.1 else s.1 ++ [32]
def wrdW (t : By) (s : WS) : Option WS := if (blkW s ++ t).length ≤ 8000 then some (blkW s ++ t, false) else none
def namW (t : By) (s : WS) : Option WS := if nmB t = true ∧ t.length ≤ 8000 then wrdW t s else none
def PostW (base wp : Nat) (w : World) (x : WS) (e : Ending) (w' : World) : Prop := e = .returned (.tuple #[]) ∧ WrA w' base wp x.1 x.2 ∧ KpO 5 base wp w w'
theorem othW_some {t : By} {s x : WS} (h : othW t s = some x) : (s.1 ++ t).length ≤ 8000 ∧ x = (s.1 ++ t, true) := by
  unfold othW at h
  split at h
  · exact ⟨by assumption, (Option.some.inj h).symm⟩
  · cases h
theorem wrdW_some {t : By} {s x : WS} (h : wrdW t s = some x) : (blkW s ++ t).length ≤ 8000 ∧ x = (blkW s ++ t, false) := by
  unfold wrdW at h
  split at h
  · exact ⟨by assumption, (Option.some.inj h).symm⟩
  · cases h
set_option maxRecDepth 100000 in
theorem must_ok (w : World) : Calls Tryz.prog 192 #[.bool true] w fun e w' => e = .returned (.tuple #[]) ∧ w' = w := by
  go_enter Tryz.func192, Tryz.ntmps192
  go_wp2
  go_end0
  exact ⟨rfl, rfl⟩
set_option maxRecDepth 100000 in
theorem must_bad (w : World) : Calls Tryz.prog 192 #[.bool false] w fun e w' => e = pan 93 0 ∧ w' = w := by
  go_enter Tryz.func192, Tryz.ntmps192
  go_wp2
  exact ⟨rfl, rfl, rfl⟩
set_option maxHeartbeats 1000000 in
set_option maxRecDepth 100000 in
theorem other_ok {w : World} {base wp : Nat} {s : WS} {t : By} {x : WS} (h : WrA w base wp s.1 s.2) (hx : othW t s = some x) : Calls Tryz.prog 250 #[.pointer (some ⟨wp, 0, none⟩), .string ⟨t.toArray⟩] w (PostW base wp w x) := by
  obtain ⟨hl, rfl⟩ := othW_some hx
  have HL := hide hl
  have HA := hide (h.str t (by omega))
  have HM := hide must_ok
  clear hx hl
  go_enter Tryz.func250, Tryz.ntmps250
  go_upto_region 1 with (go_at_call 200; refine HA.out.mono ?_; rintro e w1 ⟨rfl, r1, x1⟩; have R1 := hide r1; have X1 := hide x1; clear r1 x1)
  obtain ⟨c1, f1⟩ := R1.out.cell
  have HS := hide (R1.out.set true)
  go_upto_region 2 with fail
  clear c1 f1 HA R1
  generalize w1.setCell ⟨wp, 2, none⟩ (.bool true) = w2 at *
  have HN := hide HS.out.1.len
  have hlt : ((s.1 ++ t).length : Int) ≤ 8000 := by have := HL.out; omega
  generalize (s.1 ++ t).length = n at *
  go_wp2_with (first | (go_at_call 296; refine HN.out.mono ?_; rintro e w3 ⟨rfl, hw⟩; subst hw) | (go_at_call 192; refine (HM.out _).mono ?_; rintro e w4 ⟨rfl, hw⟩; subst hw))
  go_end0
  exact ⟨rfl, HS.out.1, X1.out.trans HS.out.2⟩
set_option maxHeartbeats 1000000 in
set_option maxRecDepth 100000 in
theorem word_ok {w : World} {base wp : Nat} {s : WS} {t : By} {x : WS} (h : WrA w base wp s.1 s.2) (hx : wrdW t s = some x) : Calls Tryz.prog 248 #[.pointer (some ⟨wp, 0, none⟩), .string ⟨t.toArray⟩] w (PostW base wp w x) := by
  obtain ⟨hl, rfl⟩ := wrdW_some hx
  obtain ⟨s, pt⟩ := s
  unfold blkW at hl ⊢
  simp only at h hl ⊢
  have HH := hide h
  obtain ⟨c0, f0⟩ := h.cell
  clear hx h
  cases pt with
  | true =>
    rw [if_pos rfl] at hl ⊢
    have HO := hide (other_ok (s := (s, true)) (t := t) (x := (s ++ t, true)) HH.out (if_pos hl))
    clear hl
    go_enter Tryz.func248, Tryz.ntmps248
    go_upto_region 3 with (go_at_call 250; refine HO.out.mono ?_; rintro e w1 ⟨rfl, r1, x1⟩; have R1 := hide r1; have X1 := hide x1; clear r1 x1)
    obtain ⟨c1, f1⟩ := R1.out.cell
    have HS := hide (R1.out.set false)
    clear c0 f0
    go_wp2
    go_end0
    exact ⟨rfl, HS.out.1, X1.out.trans HS.out.2⟩
  | false =>
    rw [if_neg (by decide)] at hl ⊢
    have HB := hide (HH.out.byte 32 (by rw [List.length_append, List.length_append] at hl; simp at hl; omega))
    have HO := hide (fun w1 (r : WrA w1 base wp (s ++ [32]) false) => other_ok (s := (s ++ [32], false)) (t := t) (x := (s ++ [32] ++ t, true)) r (if_pos hl))
    clear hl
    go_enter Tryz.func248, Tryz.ntmps248
    go_upto_region 2 with (go_at_call 201; refine HB.out.mono ?_; rintro e w0 ⟨rfl, r0, x0⟩; have R0 := hide r0; have X0 := hide x0; clear r0 x0)
    clear HB c0 f0
    go_upto_region 3 with (go_at_call 250; refine (HO.out _ R0.out).mono ?_; rintro e w1 ⟨rfl, r1, x1⟩; have R1 := hide r1; have X1 := hide x1; clear r1 x1)
    obtain ⟨c1, f1⟩ := R1.out.cell
    have HS := hide (R1.out.set false)
    clear HO
    go_wp2
    go_end0
    exact ⟨rfl, HS.out.1, X0.out.trans (X1.out.trans HS.out.2)⟩
set_option maxHeartbeats 1000000 in
set_option maxRecDepth 100000 in
theorem name_ok {w : World} {base wp : Nat} {s : WS} {t : By} {x : WS} (h : WrA w base wp s.1 s.2) (hx : namW t s = some x) : Calls Tryz.prog 249 #[.pointer (some ⟨wp, 0, none⟩), .string ⟨t.toArray⟩] w (PostW base wp w x) := by
  unfold namW at hx
  split at hx
  · rename_i hn
    have HN := hide (isName_any t w (by omega))
    rw [hn.1] at HN
    have HM := hide must_ok
    have HW := hide (fun w1 (y : Below w.heap.size w w1) => word_ok (h.below y) hx)
    clear hn hx h
    go_enter Tryz.func249, Tryz.ntmps249
    go_upto_region 1 with (first | (go_at_call 295; refine HN.out.mono ?_; rintro e w1 ⟨rfl, x1⟩; have X1 := hide x1; clear x1) | (go_at_call 192; refine (HM.out _).mono ?_; rintro e w2 ⟨rfl, hw⟩; subst hw))
    go_wp2_with (go_at_call 248; refine (HW.out _ X1.out).mono ?_; rintro e w3 ⟨rfl, r3, x3⟩; have R3 := hide r3; have X3 := hide x3; clear r3 x3)
    go_end0
    exact ⟨rfl, R3.out, (KpO.of_below X1.out).trans X3.out⟩
  · cases hx
end Go.Proofs.YthgikaklcglpiaaGreatDoor.L9
/-
  The reader: the words of kinds; which kind begins at the next token; ports. By their contracts. No condition.
-/

namespace Go.Proofs.YthgikaklcglpiaaGreatDoor.L9
open Go.RowKit Go.Lib

set_option maxRecDepth 100000 in
set_option maxHeartbeats 2000000 in
theorem tWord_any (k : Nat) (h1 : 1 ≤ k) (h2 : k ≤ 12) (w : World) : Calls Tryz.prog 332 #[.int .i64 (k : Nat)] w fun e w' => e = .returned (.string ⟨(tWord k).toArray⟩) ∧ w' = w := by
  rcases k with _ | _ | _ | _ | _ | _ | _ | _ | _ | _ | _ | _ | _ | k
  all_goals first | (exfalso; omega) | skip
  all_goals
    clear h1 h2
    try simp only [Nat.zero_add, Nat.reduceAdd]
    go_enter Tryz.func332, Tryz.ntmps332
    go_wp2
    go_ret
    exact ⟨rfl, rfl⟩
set_option maxRecDepth 100000 in
theorem iWord_any (k : Nat) (h1 : 1 ≤ k) (h2 : k ≤ 3) (w : World) : Calls Tryz.prog 247 #[.int .i64 (k : Nat)] w fun e w' => e = .returned (.string ⟨(iWord k).toArray⟩) ∧ w' = w := by
  rcases k with _ | _ | _ | _ | k
  all_goals first | (exfalso; omega) | skip
  all_goals
    clear h1 h2
    try simp only [Nat.zero_add, Nat.reduceAdd]
    go_enter Tryz.func247, Tryz.ntmps247
    go_wp2
    go_ret
    exact ⟨rfl, rfl⟩
end Go.Proofs.YthgikaklcglpiaaGreatDoor.L9
/-
  Conditions in memory: each list in a block of its own. No condition.
-/

namespace Go.Proofs.YthgikaklcglpiaaGreatDoor.L9
open Go.RowKit Go.Lib

def prC (L : List (Int × Int)) : List Value := L.flatMap fun x => [.int .i64 x.1, .int .i64 x.2]
def nsC (L : List By) : List Value := L.map fun x => .string ⟨x.toArray⟩
/-- The block of a list. -/
def blk (v : Value) : List Nat := match v.ownBlock with
  | some k => [k]
  | none => []
theorem mem_blk {v : Value} {k : Nat} : k ∈ blk v ↔ v.ownBlock = some k := by
  unfold blk
  cases h : v.ownBlock with
  | none => simp
  | some j =>
    simp
    exact ⟨fun e => e.symm, fun e => e.symm⟩
/-- The eight cells of a condition, its lists' blocks. -/
def CtAt (w : World) (base : Nat) : CT → List Value → List Nat → Prop
  | .mk k nm tx pre sp ns kids p, vs, bs => ∃ v3 v4 v5 v6 cs ks, vs = [.int .i64 k, .string ⟨nm.toArray⟩, .string ⟨tx.toArray⟩, v3, v4, v5, v6, .int .i64 p] ∧ w.ownsRow base 77 2 v3 pre.length (prC pre) ∧ w.ownsRow base 75 2 v4 sp.length (prC sp) ∧ w.ownsRow base 9 1 v5 ns.length (nsC ns) ∧ w.ownsRow base 27 8 v6 kids.length cs ∧ kidsAt kids cs ks ∧ bs = blk v3 ++ (blk v4 ++ (blk v5 ++ (blk v6 ++ ks)))
where kidsAt : List CT → List Value → List Nat → Prop
  | [], cs, ks => cs = [] ∧ ks = []
  | c :: l, cs, ks => ∃ vs bs cs' ks', cs = vs ++ cs' ∧ ks = bs ++ ks' ∧ CtAt w base c vs bs ∧ kidsAt l cs' ks'
abbrev KidsAt := CtAt.kidsAt
theorem CtAt.len {w : World} {base : Nat} {c : CT} {vs : List Value} {bs : List Nat} (h : CtAt w base c vs bs) : vs.length = 8 := by
  cases c with
  | mk k nm tx pre sp ns kids p =>
    unfold CtAt at h
    obtain ⟨v3, v4, v5, v6, cs, ks, h1, _⟩ := h
    rw [h1]; rfl
mutual
theorem CtAt.kept {F : Nat → Prop} {w w' : World} {base : Nat} (hk : Kept F w w') : ∀ (c : CT) (vs : List Value) (bs : List Nat), CtAt w base c vs bs → (∀ k ∈ bs, ¬ F k) → CtAt w' base c vs bs
  | .mk k nm tx pre sp ns kids p, vs, bs, h, hF => by
    unfold CtAt at h ⊢
    obtain ⟨v3, v4, v5, v6, cs, ks, h1, h2, h3, h4, h5, h6, h7⟩ := h
    refine ⟨v3, v4, v5, v6, cs, ks, h1, own_kept h2 hk (fun j hj => hF j ?_), own_kept h3 hk (fun j hj => hF j ?_), own_kept h4 hk (fun j hj => hF j ?_), own_kept h5 hk (fun j hj => hF j ?_), KidsAt.kept hk kids cs ks h6 (fun j hj => hF j ?_), h7⟩
    all_goals
      rw [h7]
      simp only [List.mem_append, mem_blk]
      simp [hj]
theorem KidsAt.kept {F : Nat → Prop} {w w' : World} {base : Nat} (hk : Kept F w w') : ∀ (l : List CT) (cs : List Value) (ks : List Nat), KidsAt w base l cs ks → (∀ k ∈ ks, ¬ F k) → KidsAt w' base l cs ks
  | [], cs, ks, h, _ => h
  | c :: l, cs, ks, h, hF => by
    obtain ⟨vs, bs, cs', ks', h1, h2, h3, h4⟩ := h
    refine ⟨vs, bs, cs', ks', h1, h2, CtAt.kept hk c vs bs h3 (fun j hj => hF j ?_), KidsAt.kept hk l cs' ks' h4 (fun j hj => hF j ?_)⟩
    all_goals
      rw [h2]
      simp [hj]
end
theorem CtAt.below {w w' : World} {base : Nat} {c : CT} {vs : List Value} {bs : List Nat} (h : CtAt w base c vs bs) (x : Below w.heap.size w w') : CtAt w' base c vs bs :=
  CtAt.kept (F := fun _ => False) (Kept.of_below x) c vs bs h (fun _ _ h => h)
theorem KidsAt.below {w w' : World} {base : Nat} {l : List CT} {cs : List Value} {ks : List Nat} (h : KidsAt w base l cs ks) (x : Below w.heap.size w w') : KidsAt w' base l cs ks :=
  KidsAt.kept (F := fun _ => False) (Kept.of_below x) l cs ks h (fun _ _ h => h)
mutual
theorem CtAt.lt {w : World} {base : Nat} : ∀ {c : CT} {vs : List Value} {bs : List Nat}, CtAt w base c vs bs → ∀ k ∈ bs, base ≤ k ∧ k < w.heap.size
  | .mk k nm tx pre sp ns kids p, vs, bs, h => by
    unfold CtAt at h
    obtain ⟨v3, v4, v5, v6, cs, ks, h1, h2, h3, h4, h5, h6, h7⟩ := h
    intro j hj
    rw [h7] at hj
    simp only [List.mem_append, mem_blk] at hj
    rcases hj with hj | hj | hj | hj | hj
    · exact World.ownsRow.lt h2 j hj
    · exact World.ownsRow.lt h3 j hj
    · exact World.ownsRow.lt h4 j hj
    · exact World.ownsRow.lt h5 j hj
    · exact KidsAt.lt h6 j hj
theorem KidsAt.lt {w : World} {base : Nat} : ∀ {l : List CT} {cs : List Value} {ks : List Nat}, KidsAt w base l cs ks → ∀ k ∈ ks, base ≤ k ∧ k < w.heap.size
  | [], cs, ks, h => by
    obtain ⟨_, rfl⟩ := h
    intro k hk
    cases hk
  | c :: l, cs, ks, h => by
    obtain ⟨vs, bs, cs', ks', h1, h2, h3, h4⟩ := h
    intro k hk
    rw [h2, List.mem_append] at hk
    rcases hk with hk | hk
    · exact CtAt.lt h3 k hk
    · exact KidsAt.lt h4 k hk
end
end Go.Proofs.YthgikaklcglpiaaGreatDoor.L9
