/-
  Quote by its contract. Condition: the text is no longer than a process can hold.
-/
import Derived.Test.YtlmhofjiobmodaaGreatDoorQ07
import Derived.Test.YtlmhofjiobmodaaGreatDoorQ05
import Derived.Lib.AppendStr
import Derived.Test.YtlmhofjiobmodaaGreatDoorQ03
namespace Go.Proofs.YtlmhofjiobmodaaGreatDoor
open Go.RowKit Go.Lib

/-- A byte as it stands in quotes. -/
def escB (b : UInt8) : By := if esB (bI b) = true then [92, b] else [b]
def escL (s : By) : By := (s.map escB).flatten
theorem escL_snoc (s : By) (b : UInt8) : escL (s ++ [b]) = escL s ++ escB b := by simp [escL]
theorem escL_len (s : By) : (escL s).length ≤ 2 * s.length := by
  induction s with
  | nil => simp [escL]
  | cons b t ih =>
    have : escL (b :: t) = escB b ++ escL t := by simp [escL]
    have h2 : (escB b).length ≤ 2 := by unfold escB; split <;> simp
    rw [this, List.length_append, List.length_cons]
    omega
/-- What Quote tells. -/
def quoP (s : By) : Int × By := if 200 < s.length then (1, []) else if s.all (fun b => txB (bI b)) = true then (0, 34 :: escL s ++ [34]) else (1, [])
theorem lies45 : liesAt Tryz.prog Tryz.prog.depth 87 (2 / Tryz.prog.cellsOf 87) 0 87 1 = true := by kernel_rfl
theorem kept_bub {w : World} {base b o k : Nat} {e : TypeId} {cs : Array Value} {l : By} (h : BuB w base b o e cs l) {t : ByteArray} {pos : Nat} (hk : w.heap[k]? = some (.stringIter t pos)) (q : Nat) : BuB (w.iterAt k t q) base b o e cs l := by
  have hne : ∀ j c e f, w.heap[j]? = some (.cells c e f) → ¬ j = k := fun j c e f hj e' => by rw [e', hk] at hj; cases hj
  obtain ⟨v, hv, hr⟩ := h.row
  refine ⟨(Lib.iterAt_other w k b t q (hne b _ _ _ h.blk)).trans h.blk, h.ge, h.ho, h.lies, h.ne, h.ad, v, hv, own_kept hr (kept_iter w k t q) (fun j hj => ?_)⟩
  obtain ⟨c, hc⟩ := own_ty hr j hj
  exact hne _ _ _ _ hc
theorem KpO.iter {t : TypeId} {base b k : Nat} {w w' : World} {s : ByteArray} {q : Nat} (h : KpO t base b w w') (hk : w.heap[k]? = some (.stringIter s q)) (hb : k ≠ b) : w'.heap[k]? = some (.stringIter s q) := by
  rw [Kept.block h k (lt_of_block hk) ?_, hk]
  rintro (h1 | ⟨_, c, f, h1⟩)
  · exact hb h1
  · rw [hk] at h1; cases h1
theorem KpO.to_below {t : TypeId} {base b : Nat} {w w' : World} (h : KpO t base b w w') (hb : base ≤ b) (hs : base ≤ w.heap.size) : Below base w w' := Kept.below h hs (fun i hi => by
  rcases hi with h1 | ⟨h1, _⟩
  · omega
  · exact h1)
/-- A builder in a block of its own. -/
def BuO (w : World) (P : Nat) (l : By) : Prop := ∃ cs, BuB w P P 0 87 cs l ∧ cs.size = 2
theorem BuO.byte {w : World} {P : Nat} {l : By} (h : BuO w P l) (c : UInt8) (hb : P ≤ w.heap.size) (hl : l.length ≤ 140737488351232) :
    Calls Tryz.prog 134 #[.pointer (some ⟨P, 0, none⟩), .int .u8 (c.toNat : Int)] w fun x w' => x = .returned .nilIface ∧ BuO w' P (l ++ [c]) ∧ KpO 5 P P w w' := by
  obtain ⟨cs, h, hc⟩ := h
  refine (h.byte c hb hl).mono ?_
  rintro x w' ⟨rfl, ⟨v', h2⟩, k⟩
  exact ⟨rfl, ⟨_, h2, by simpa using hc⟩, k⟩
theorem BuO.rune {w : World} {P : Nat} {l : By} (h : BuO w P l) (c : UInt8) (hc1 : c.toNat < 128) (hb : P ≤ w.heap.size) (hl : l.length ≤ 140737488351232) :
    Calls Tryz.prog 127 #[.pointer (some ⟨P, 0, none⟩), .int .i32 (c.toNat : Int)] w fun x w' => x = .returned (.tuple #[.int .i64 1, .nilIface]) ∧ BuO w' P (l ++ [c]) ∧ KpO 5 P P w w' := by
  obtain ⟨cs, h, hc⟩ := h
  refine (h.rune c hc1 hb hl).mono ?_
  rintro x w' ⟨rfl, ⟨v', h2⟩, k⟩
  exact ⟨rfl, ⟨_, h2, by simpa using hc⟩, k⟩
theorem BuO.iter {w : World} {P k : Nat} {l : By} (h : BuO w P l) {t : ByteArray} {pos : Nat} (hk : w.heap[k]? = some (.stringIter t pos)) (q : Nat) : BuO (w.iterAt k t q) P l := by
  obtain ⟨cs, h, hc⟩ := h
  exact ⟨cs, kept_bub h hk q, hc⟩
theorem BuO.below {w w' : World} {P : Nat} {l : By} (h : BuO w P l) (y : Below w.heap.size w w') : BuO w' P l := by
  obtain ⟨cs, h, hc⟩ := h
  obtain ⟨v, hv, hr⟩ := h.row
  exact ⟨cs, ⟨(y.block P (lt_of_block h.blk)).trans h.blk, h.ge, h.ho, h.lies, h.ne, h.ad, v, hv, own_below hr y⟩, hc⟩
theorem txq_high {r : Int} (h : 128 ≤ r) : txB r = false := by unfold txB; have : decide (r ≤ 126) = false := (by simp; omega); rw [this, Bool.and_false]
set_option maxHeartbeats 4000000 in
set_option maxRecDepth 100000 in
theorem quote_any (s : By) (w : World) (hs : s.length ≤ 140737488351232) :
    Calls Tryz.prog 204 #[.string ⟨s.toArray⟩] w fun e w' => e = .returned (.tuple #[.string ⟨(quoP s).2.toArray⟩, .int .i64 (quoP s).1]) ∧ Below w.heap.size w w' := by
  have hsz := bs_size s
  by_cases hl : 200 < s.length
  · have hl' : (200 : Int) < (s.length : Int) := by omega
    have HQ : Hid (quoP s = (1, [])) := by unfold Hid quoP; rw [if_pos hl]
    go_enter Tryz.func204, Tryz.ntmps204
    go_wp2
    go_ret2
    rw [HQ.out]
    exact ⟨rfl, Below.refl _ _⟩
  · have hl' : ¬ (200 : Int) < (s.length : Int) := by omega
    have HQ : Hid (quoP s = if s.all (fun b => txB (bI b)) = true then (0, 34 :: escL s ++ [34]) else (1, [])) := by unfold Hid quoP; rw [if_neg hl]
    obtain ⟨w2, hw2⟩ : ∃ w2, w2 = w.alloc (.cells #[.pointer none, .slice none 0 0] 87) := ⟨_, rfl⟩
    have X2 : Below w.heap.size w w2 := by rw [hw2]; exact al (Below.refl _ _) _
    have B2 : BuO w2 w.heap.size [] := ⟨#[.pointer none, .slice none 0 0], ⟨by rw [hw2]; exact heap_alloc_new w _, Nat.le_refl _, by simp, lies45, ⟨by decide, by decide⟩, .inl rfl, .slice none 0 0, rfl, World.ownsRow_nil _ _ _ _⟩, rfl⟩
    have HB1 := hide (B2.byte 34 X2.size (by simp))
    have HX2 := hide X2
    have hs2 : Hid (w2.heap.size = w.heap.size + 1) := by unfold Hid; rw [hw2]; simp
    clear X2 B2
    go_enter Tryz.func204, Tryz.ntmps204
    go_upto_region 4 with fail
    rw [← hw2]
    clear hw2
    obtain ⟨P, hP⟩ : ∃ P, P = w.heap.size := ⟨_, rfl⟩
    have HPW := hide hP
    rw [← hP] at HB1 HX2 hs2 ⊢
    clear hP
    go_upto_region 5 with (go_at_call 134; refine HB1.out.mono ?_; rintro e w3 ⟨rfl, hB, hK⟩; have HB := hide hB; have HK := hide hK; clear hB hK)
    clear HB1
    have HZ3 : Hid (P + 1 ≤ w3.heap.size) := by have := HK.out.size; have := hs2.out; unfold Hid; omega
    have HX3 := hide (HX2.out.trans (HK.out.to_below (Nat.le_refl _) (by have := hs2.out; omega)))
    obtain ⟨Q, hQ⟩ : ∃ Q, Q = w3.heap.size := ⟨_, rfl⟩
    have HQW := hide hQ
    go_wp2
    rw [← hQ]
    clear hQ
    go_loopw [] (fun wr => ∃ pos : Nat, wr.heap[Q]? = some (.stringIter ⟨s.toArray⟩ pos) ∧ Hid (BuO wr P (34 :: escL (s.take pos))) ∧ Hid (Below P w wr) ∧ pos ≤ s.length ∧ Hid (∀ i (hi : i < s.length), i < pos → txB (bI s[i]) = true)) (fun wr => s.length - wr.iterPos Q)
    case atStart =>
      refine ⟨0, ?_, ?_, ?_, by omega, fun i _ h => by omega⟩
      · have := World.iter_heap w3 ⟨s.toArray⟩ 0
        rw [← HQW.out] at this
        exact this
      · exact HB.out.below ((Below.refl _ w3).alloc (Nat.le_refl _) _)
      · exact bt HX3.out ((Below.refl _ w3).alloc (Nat.le_refl _) _) (by rw [HPW.out]; exact Nat.le_refl _)
    case round =>
      obtain ⟨pos, hit, HB4, HX4, hp1, HT⟩ := hrel
      have hQP : ¬ Q = P := by have := HZ3.out; have := HQW.out; omega
      have hPQ : P ≤ Q := by have := HZ3.out; have := HQW.out; omega
      have HQP := hide hQP
      have hPs : P ≤ wr.heap.size := by have := lt_of_block hit; omega
      by_cases hp : pos < s.length
      · have hp' : pos < (⟨s.toArray⟩ : ByteArray).size := by rw [hsz]; exact hp
        by_cases ha : s[pos].toNat < 128
        · have hnx : ∀ ty, (Instr.next (.pointer (some ⟨Q, 0, none⟩)) true ty).run Tryz.prog wr = _ := fun ty => Lib.run_next_ascii_at wr Q ⟨s.toArray⟩ pos ty hit hp' (by rw [bs_get]; exact ha)
          rw [bs_get] at hnx
          have HI2 := hide (Lib.iterAt_heap wr Q ⟨s.toArray⟩ pos (pos + 1) hit)
          have HX5 := hide (Lib.below_iterAt HX4.out (k := Q) hPQ ⟨s.toArray⟩ (pos + 1))
          have HB5 := hide (HB4.out.iter hit (pos + 1))
          have HZ5 : Hid (P ≤ (wr.iterAt Q ⟨s.toArray⟩ (pos + 1)).heap.size) := by unfold Hid; rw [Lib.iterAt_size]; exact hPs
          have HE1 := hide (fun W => isText_any (bI s[pos]) W)
          have HE2 := hide (fun W => isEsc_any (bI s[pos]) W)
          have hlen : (34 :: escL (s.take pos)).length ≤ 1000 := by have := escL_len (s.take pos); simp at this ⊢; omega
          have HSN : Hid (s.take (pos + 1) = s.take pos ++ [s[pos]]) := List.take_succ_eq_append_getElem hp
          cases htx : txB (bI s[pos]) with
          | false =>
            have HAL : Hid (s.all (fun b => txB (bI b)) = false) := by
              unfold Hid
              rw [List.all_eq_false]
              exact ⟨s[pos], List.getElem_mem hp, by simp [htx]⟩
            rw [htx] at HE1
            clear htx
            unfold bI at HE1 HE2
            generalize s[pos].toNat = r at *
            go_wp2_with (go_at_call 125; refine (HE1.out _).mono ?_; rintro e wz ⟨rfl, hwz⟩; have hwz := hwz.symm; subst hwz)
            go_ret2
            rw [HQ.out, if_neg (by rw [HAL.out]; decide)]
            exact ⟨rfl, by have := HPW.out; rw [← this]; exact HX5.out⟩
          | true =>
            have HT2 : Hid (∀ i (hi : i < s.length), i < pos + 1 → txB (bI s[i]) = true) := fun i hi h => by
              by_cases h3 : i < pos
              · exact HT.out i hi h3
              · obtain rfl : i = pos := by omega
                exact htx
            rw [htx] at HE1
            clear htx
            cases hes : esB (bI s[pos]) with
            | false =>
              have HEL : Hid ((34 :: escL (s.take pos)) ++ [s[pos]] = 34 :: escL (s.take (pos + 1))) := by
                unfold Hid
                rw [HSN.out, escL_snoc]
                unfold escB
                rw [if_neg (by simp [hes])]
                rfl
              have HW := hide (HB5.out.rune s[pos] ha HZ5.out (by omega))
              rw [HEL.out] at HW
              rw [hes] at HE2
              clear hes
              unfold bI at HE1 HE2
              generalize s[pos].toNat = r at *
              go_wp2_with (first | (go_at_call 125; refine (HE1.out _).mono ?_; rintro e wz ⟨rfl, hwz⟩; have hwz := hwz.symm; subst hwz) | (go_at_call 91; refine (HE2.out _).mono ?_; rintro e wz ⟨rfl, hwz⟩; have hwz := hwz.symm; subst hwz) | (go_at_call 127; refine HW.out.mono ?_; rintro e w6 ⟨rfl, hB, hK⟩; have HB6 := hide hB; have HK6 := hide hK; clear hB hK))
              have HI6 := hide (HK6.out.iter HI2.out HQP.out)
              have HX6 := hide (HX5.out.trans (HK6.out.to_below (Nat.le_refl _) HZ5.out))
              go_roundw
              case rel => exact ⟨pos + 1, HI6.out, HB6, HX6, hp, HT2⟩
              case measure =>
                simp only [World.iterPos, HI6.out, hit]
                omega
            | true =>
              have HEL : Hid (((34 :: escL (s.take pos)) ++ [92]) ++ [s[pos]] = 34 :: escL (s.take (pos + 1))) := by
                unfold Hid
                rw [HSN.out, escL_snoc]
                unfold escB
                rw [if_pos hes]
                simp
              have HW := hide (HB5.out.byte 92 HZ5.out (by omega))
              have HR : Hid (∀ W, BuO W P ((34 :: escL (s.take pos)) ++ [92]) → P ≤ W.heap.size → Calls Tryz.prog 127 #[.pointer (some ⟨P, 0, none⟩), .int .i32 (s[pos].toNat : Int)] W fun x w' => x = .returned (.tuple #[.int .i64 1, .nilIface]) ∧ BuO w' P (34 :: escL (s.take (pos + 1))) ∧ KpO 5 P P W w') := fun W h1 h2 => by
                rw [← HEL.out]
                exact h1.rune s[pos] ha h2 (by simp at hlen ⊢; omega)
              rw [hes] at HE2
              clear hes
              unfold bI at HE1 HE2
              have HW' : Hid (Calls Tryz.prog 134 #[.pointer (some ⟨P, 0, none⟩), .int .u8 92] (wr.iterAt Q ⟨s.toArray⟩ (pos + 1)) fun x w' => x = .returned .nilIface ∧ BuO w' P ((34 :: escL (s.take pos)) ++ [92]) ∧ KpO 5 P P (wr.iterAt Q ⟨s.toArray⟩ (pos + 1)) w') := HW
              clear HW
              generalize s[pos].toNat = r at *
              go_wp2_with (first | (go_at_call 125; refine (HE1.out _).mono ?_; rintro e wz ⟨rfl, hwz⟩; have hwz := hwz.symm; subst hwz) | (go_at_call 91; refine (HE2.out _).mono ?_; rintro e wz ⟨rfl, hwz⟩; have hwz := hwz.symm; subst hwz) | (go_at_call 134; refine HW'.out.mono ?_; rintro e w5 ⟨rfl, hB, hK⟩; have HR2 := hide (HR.out w5 hB (by have := hK.size; have := HZ5.out; omega)); have HK5 := hide hK; clear hB hK) | (go_at_call 127; refine HR2.out.mono ?_; rintro e w6 ⟨rfl, hB, hK⟩; have HB6 := hide hB; have HK6 := hide hK; clear hB hK))
              have HKK := hide (HK5.out.trans HK6.out)
              have HI6 := hide (HKK.out.iter HI2.out HQP.out)
              have HX6 := hide (HX5.out.trans (HKK.out.to_below (Nat.le_refl _) HZ5.out))
              go_roundw
              case rel => exact ⟨pos + 1, HI6.out, HB6, HX6, hp, HT2⟩
              case measure =>
                simp only [World.iterPos, HI6.out, hit]
                omega
        · have hnx : ∀ ty, (Instr.next (.pointer (some ⟨Q, 0, none⟩)) true ty).run Tryz.prog wr = _ := fun ty => Lib.run_next_any_at wr Q ⟨s.toArray⟩ pos ty hit hp'
          obtain ⟨hd1, hd2⟩ := rune_high s hp ha
          have HX5 := hide (Lib.below_iterAt HX4.out (k := Q) hPQ ⟨s.toArray⟩ (pos + (Utf8.decode ⟨s.toArray⟩ pos).2))
          have HAL : Hid (s.all (fun b => txB (bI b)) = false) := by
            unfold Hid
            rw [List.all_eq_false]
            exact ⟨s[pos], List.getElem_mem hp, by rw [txq_high (by unfold bI; omega)]; decide⟩
          generalize (Utf8.decode ⟨s.toArray⟩ pos).2 = wd at *
          generalize (Utf8.decode ⟨s.toArray⟩ pos).1 = r at *
          have HE1 := hide (fun W => isText_any (r : Int) W)
          rw [txq_high (by omega)] at HE1
          go_wp2_with (go_at_call 125; refine (HE1.out _).mono ?_; rintro e wz ⟨rfl, hwz⟩; have hwz := hwz.symm; subst hwz)
          go_ret2
          rw [HQ.out, if_neg (by rw [HAL.out]; decide)]
          exact ⟨rfl, by have := HPW.out; rw [← this]; exact HX5.out⟩
      · obtain rfl : pos = s.length := by omega
        have hnx : ∀ ty, (Instr.next (.pointer (some ⟨Q, 0, none⟩)) true ty).run Tryz.prog wr = _ := fun ty => Lib.run_next_end_at wr Q ⟨s.toArray⟩ s.length ty hit (by rw [hsz]; exact hp)
        have HAL : Hid (s.all (fun b => txB (bI b)) = true) := by
          unfold Hid
          rw [List.all_eq_true]
          intro b hb
          obtain ⟨i, hi, rfl⟩ := List.getElem_of_mem hb
          exact HT.out i hi hi
        have hlen : (34 :: escL (s.take s.length)).length ≤ 1000 := by have := escL_len (s.take s.length); simp at this ⊢; omega
        have HW := hide (HB4.out.byte 34 hPs (by omega))
        rw [List.take_length] at HW
        have HW' : Hid (Calls Tryz.prog 134 #[.pointer (some ⟨P, 0, none⟩), .int .u8 34] wr fun x w' => x = .returned .nilIface ∧ BuO w' P (34 :: escL s ++ [34]) ∧ KpO 5 P P wr w') := HW
        clear HW
        go_wp2_with (first | (go_at_call 134; refine HW'.out.mono ?_; rintro e w5 ⟨rfl, hB, hK⟩; obtain ⟨cs, hB, hcs⟩ := hB; have HS := hide (hB.string (fun e => by simp at e)); have HK5 := hide hK; clear hB hK) | (go_at_call 67; refine HS.out.mono ?_; rintro e w6 ⟨rfl, -, hK, -⟩; have HK6 := hide hK; clear hK))
        go_ret2
        rw [HQ.out, if_pos HAL.out]
        exact ⟨rfl, by have := HPW.out; rw [← this]; exact HX4.out.trans ((HK5.out.trans HK6.out).to_below (Nat.le_refl _) hPs)⟩
end Go.Proofs.YtlmhofjiobmodaaGreatDoor
/-
  The writer of sources in memory; strings.Builder's WriteString in it. Condition: what is written is not longer than a process can hold.
-/
namespace Go.Proofs.YtlmhofjiobmodaaGreatDoor
open Go.RowKit Go.Lib

theorem cells_str (l : By) : Lib.strCells ⟨l.toArray⟩ = Lib.byteCells l := by
  unfold Lib.strCells Lib.byteCells
  simp
theorem wpList_append_str {P : Program} {w : World} {ops : Array Oper} {rest : List Oper} {o : Oper} {a : Act} {Q : Exit → Act → World → Prop} (hgd : o.guard = none) (sl x : Operand) (t u : TypeId)
    (ho : o.op = .call { callee := .builtin .append, args := #[sl, x], argTypes := #[t, u] })
    (base : Nat) (e : TypeId) (i : TypeInfo) (ht : P.underlying t = some (.slice e)) (hu : P.underlying u = some .string) (hi : P.info? e = some i) (hz : i.zero = some (.int .u8 0))
    (hsize : i.size = 1) (hby : i.bytes = 1)
    (v : Value) (l : By) (hs : a.eval sl = v) (hown : w.ownsRow base e 1 v l.length (Lib.byteCells l)) (s : By) (hx : a.eval x = .string ⟨s.toArray⟩)
    (h63 : l.length + s.length ≤ 140737488355328) (hbase : base ≤ w.heap.size)
    (h : ∀ v' w', w'.ownsRow base e 1 v' (l ++ s).length (Lib.byteCells (l ++ s)) → w.grownBy w' v.ownBlock → (v' = .slice none 0 0 ↔ v = .slice none 0 0 ∧ s = []) → wpList P ops Q rest (a.put o.dst v') w') :
    wpList P ops Q (o :: rest) a w := by
  have hsz : (⟨s.toArray⟩ : ByteArray).size = s.length := by simp [ByteArray.size]
  obtain ⟨v', w', hr, h2, h3, h4⟩ := run_append_own_string (P := P) w base t u o.type e i ht hu hi hz hsize hby v l.length (Lib.byteCells l) hown ⟨s.toArray⟩ (by rw [hsz]; unfold maxLen; omega) (by rw [hsz]; exact h63) hbase
  refine wpList_plain hgd fun _ hK => ?_
  unfold Oper.wp execOp
  simp only [ho, resolve, invoke, builtin, Sem.run_bind, Sem.run_pure, Result.andThen_ok, List.map_toArray, List.map_cons, List.map_nil, hs, hx, hr]
  refine hK _ _ (h v' w' ?_ h3 ?_)
  · rw [hsz, cells_str] at h2
    rw [List.length_append, show Lib.byteCells (l ++ s) = Lib.byteCells l ++ Lib.byteCells s by simp [Lib.byteCells]]
    exact h2
  · rw [h4, hsz]
    exact ⟨fun h => ⟨h.1, List.eq_nil_of_length_eq_zero h.2⟩, fun h => ⟨h.1, by rw [h.2]; rfl⟩⟩
section
variable {w : World} {base b o : Nat} {e : TypeId} {cs : Array Value} {l : List UInt8}
theorem BuB.put2 (h : BuB w base b o e cs l) {w6 : World} {v v' : Value} {l' : List UInt8} (h1 : w6.ownsRow base 5 1 v' l'.length (Lib.byteCells l')) (h2 : w.grownBy w6 v.ownBlock) (hr : w.ownsRow base 5 1 v l.length (Lib.byteCells l)) :
    BuB (w6.setCell ⟨b, o + 1, none⟩ v') base b o e (cs.set! (o + 1) v') l' ∧ KpO 5 base b w (w6.setCell ⟨b, o + 1, none⟩ v') ∧ w6.heap[b]? = some (.cells cs e (0, 0)) := by
  have k0 := kept_of_grown h2
  have k1 : KpO 5 base b w w6 := k0.mono (fun k hk => by
    obtain ⟨c, hc⟩ := own_ty hr k hk
    exact .inr ⟨(World.ownsRow.lt hr k hk).1, c, _, hc⟩)
  have hB6 : w6.heap[b]? = some (.cells cs e (0, 0)) := (k0.block b (lt_of_block h.blk) (fun e' => h.apart hr (.inl rfl) b e' rfl)).trans h.blk
  have hap : ∀ k, v'.ownBlock = some k → ¬ k = b := fun k hk e' => by
    obtain ⟨c, hc⟩ := own_ty h1 k hk
    rw [e', hB6] at hc
    injection hc with hc
    injection hc with _ hc _
    exact h.ne.1 hc
  refine ⟨⟨block_setCell' hB6 _ _, h.ge, by simpa using h.ho, by simpa using h.lies, h.ne, ?_, v', ?_, ?_⟩, k1.trans (KpO.set _), hB6⟩
  · rw [Array.set!_eq_setIfInBounds, Array.getElem?_setIfInBounds_ne (show o + 1 ≠ o by omega)]
    exact h.ad
  · have := h.ho
    simp [Array.set!_eq_setIfInBounds, this]
  · exact own_kept (F := fun k => k = b) h1 ((Kept.refl (fun k => k = b) w6).setCell (p := ⟨b, o + 1, none⟩) rfl _) hap
set_option maxHeartbeats 2000000 in
set_option maxRecDepth 100000 in
/-- WriteString. -/
theorem BuB.str (h : BuB w base b o e cs l) (t : By) (hb : base ≤ w.heap.size) (hl : l.length + t.length ≤ 140737488351232) (h0 : l = [] → cs[o + 1]? = some (.slice none 0 0)) :
    Calls Tryz.prog 136 #[.pointer (some ⟨b, o, none⟩), .string ⟨t.toArray⟩] w fun x w' => x = .returned (.tuple #[.int .i64 (t.length : Int), .nilIface]) ∧ (∃ v', BuB w' base b o e ((cs.set! o (.pointer (some ⟨b, o, none⟩))).set! (o + 1) v') (l ++ t) ∧ (l ++ t = [] → v' = .slice none 0 0)) ∧ KpO 5 base b w w' := by
  obtain ⟨i5, hi5, hz50, hz51, hz52⟩ := info_parts Tryz.info5n
  have HC := hide (h.copy hb)
  have H0 : Hid (l = [] → (cs.set! o (.pointer (some ⟨b, o, none⟩)))[o + 1]? = some (.slice none 0 0)) := fun e => by
    rw [Array.set!_eq_setIfInBounds, Array.getElem?_setIfInBounds_ne (by omega)]
    exact h0 e
  clear h h0
  have hsz : (⟨t.toArray⟩ : ByteArray).size = t.length := by simp [ByteArray.size]
  go_enter Tryz.func136, Tryz.ntmps136
  go_upto_region 2 with (go_at_call 153; refine HC.out.mono ?_; rintro x w1 ⟨rfl, h1, k1, hs1⟩; have HB := hide h1; have HK := hide k1; have HS := hide hs1; clear h1 k1 hs1)
  clear HC
  obtain ⟨v, hv, hr⟩ := HB.out.row
  obtain ⟨d0, d1, d2, d3⟩ := HB.out.cells
  rw [hv] at d1
  have HV := hide hv
  have HR := hide hr
  have P3 : Hid (base ≤ w1.heap.size) := by
    have h2 := HS.out
    unfold Hid; omega
  have HPU : Hid (∀ v' w6, w6.ownsRow base 5 1 v' (l ++ t).length (Lib.byteCells (l ++ t)) → w1.grownBy w6 v.ownBlock → BuB (w6.setCell ⟨b, o + 1, none⟩ v') base b o e ((cs.set! o (.pointer (some ⟨b, o, none⟩))).set! (o + 1) v') (l ++ t) ∧ KpO 5 base b w1 (w6.setCell ⟨b, o + 1, none⟩ v') ∧ w6.frozen? ⟨b, o + 1, none⟩ = false ∧ (∃ y, w6.cell? ⟨b, o + 1, none⟩ = some y)) := fun v' w6 q1 q2 => by
    have := HB.out.put2 (l' := l ++ t) q1 q2 HR.out
    have hc := cell_of_row _ _ (o + 1) _ _ _ this.2.2
    rw [HV.out] at hc
    exact ⟨this.1, this.2.1, frozen_of_row _ _ _ _ _ this.2.2, v, hc⟩
  have HN : Hid (∀ v' : Value, (v' = .slice none 0 0 ↔ v = .slice none 0 0 ∧ t = []) → l ++ t = [] → v' = .slice none 0 0) := fun v' q hn => by
    obtain ⟨e1, e2⟩ := List.append_eq_nil_iff.1 hn
    refine q.2 ⟨?_, e2⟩
    have := H0.out e1
    rw [HV.out] at this
    exact Option.some.inj this
  clear hr hv
  go_wp2_with (at_builtin; refine wpList_append_str rfl (.tmp 12) (.tmp 13) 64 9 rfl base 5 i5 Tryz.underlying64 Tryz.underlying9 hi5 hz50 hz51 hz52 _ l rfl HR.out t rfl (by omega) P3.out ?_; intro v6 w6 q1 q2 q3; obtain ⟨ao6, cp6, he6, _⟩ := own_shape q1; have HQ := hide (HN.out _ q3); subst he6; obtain ⟨hB, hK, hF, y, hy⟩ := HPU.out _ w6 q1 q2; have HB2 := hide hB; have HK2 := hide hK; clear q1 q2 q3 hB hK)
  go_ret2
  simp only [List.length_append] at HB2 HK2 HQ
  exact ⟨rfl, ⟨_, HB2.out, HQ.out⟩, HK.out.trans HK2.out⟩
end
/-- The writer: what it has written, whether the last token needs no blank. -/
structure WrA (w : World) (base wp : Nat) (s : By) (pt : Bool) : Prop where
  at_ : ∃ cs, BuB w base wp 0 120 cs s ∧ cs.size = 3 ∧ cs[2]? = some (.bool pt) ∧ (s = [] → cs[1]? = some (.slice none 0 0))
  le : base ≤ w.heap.size
  few : s.length ≤ 8001
theorem WrA.ge {w : World} {base wp : Nat} {s : By} {pt : Bool} (h : WrA w base wp s pt) : base ≤ wp := by
  obtain ⟨cs, h1, _⟩ := h.at_
  exact h1.ge
theorem WrA.below {w w' : World} {base wp : Nat} {s : By} {pt : Bool} (h : WrA w base wp s pt) (x : Below w.heap.size w w') : WrA w' base wp s pt := by
  obtain ⟨cs, h1, h2, h3, h4⟩ := h.at_
  obtain ⟨v, hv, hr⟩ := h1.row
  exact ⟨⟨cs, ⟨(x.block wp (lt_of_block h1.blk)).trans h1.blk, h1.ge, h1.ho, h1.lies, h1.ne, h1.ad, v, hv, own_below hr x⟩, h2, h3, h4⟩, Nat.le_trans h.le x.size, h.few⟩
theorem WrA.cell {w : World} {base wp : Nat} {s : By} {pt : Bool} (h : WrA w base wp s pt) : w.cell? ⟨wp, 2, none⟩ = some (.bool pt) ∧ w.frozen? ⟨wp, 2, none⟩ = false := by
  obtain ⟨cs, h1, h2, h3, h4⟩ := h.at_
  exact ⟨by rw [cell_of_row _ _ _ _ _ _ h1.blk]; exact h3, frozen_of_row _ _ _ _ _ h1.blk⟩
theorem WrA.set {w : World} {base wp : Nat} {s : By} {pt : Bool} (h : WrA w base wp s pt) (q : Bool) : WrA (w.setCell ⟨wp, 2, none⟩ (.bool q)) base wp s q ∧ KpO 5 base wp w (w.setCell ⟨wp, 2, none⟩ (.bool q)) := by
  obtain ⟨cs, h1, h2, h3, h4⟩ := h.at_
  obtain ⟨v, hv, hr⟩ := h1.row
  have kk : Kept (fun k => k = wp) w (w.setCell ⟨wp, 2, none⟩ (.bool q)) := Kept.setCell (F := fun k => k = wp) (p := ⟨wp, 2, none⟩) (Kept.refl _ _) rfl _
  refine ⟨⟨⟨cs.set! 2 (.bool q), ⟨block_setCell' h1.blk 2 _, h1.ge, by simpa using h1.ho, by simpa using h1.lies, h1.ne, ?_, v, ?_, own_kept hr kk (fun k hk => h1.apart hr (.inl rfl) k hk)⟩, by simp [h2], ?_, ?_⟩, by simpa using h.le, h.few⟩, KpO.set _⟩
  · rw [Array.set!_eq_setIfInBounds, Array.getElem?_setIfInBounds_ne (by omega)]
    exact h1.ad
  · rw [Array.set!_eq_setIfInBounds, Array.getElem?_setIfInBounds_ne (by omega)]
    exact hv
  · simp [Array.set!_eq_setIfInBounds, h2]
  · rw [Array.set!_eq_setIfInBounds, Array.getElem?_setIfInBounds_ne (by omega)]
    exact h4
theorem WrA.str {w : World} {base wp : Nat} {s : By} {pt : Bool} (h : WrA w base wp s pt) (t : By) (ht : (s ++ t).length ≤ 8001) :
    Calls Tryz.prog 136 #[.pointer (some ⟨wp, 0, none⟩), .string ⟨t.toArray⟩] w fun x w' => x = .returned (.tuple #[.int .i64 (t.length : Int), .nilIface]) ∧ WrA w' base wp (s ++ t) pt ∧ KpO 5 base wp w w' := by
  obtain ⟨cs, h1, h2, h3, h4⟩ := h.at_
  rw [List.length_append] at ht
  refine (h1.str t h.le (by omega) h4).mono ?_
  rintro x w' ⟨rfl, ⟨v', hB, hn⟩, hk⟩
  have hbel := hk.to_below h1.ge h.le
  refine ⟨rfl, ⟨⟨_, hB, by simp [h2], ?_, fun e => ?_⟩, Nat.le_trans h.le hbel.size, by rw [List.length_append]; exact ht⟩, hk⟩
  · rw [Array.set!_eq_setIfInBounds, Array.getElem?_setIfInBounds_ne (by omega), Array.set!_eq_setIfInBounds, Array.getElem?_setIfInBounds_ne (by omega)]
    exact h3
  · rw [hn e]
    simp [Array.set!_eq_setIfInBounds, h2]
theorem WrA.byte {w : World} {base wp : Nat} {s : By} {pt : Bool} (h : WrA w base wp s pt) (c : UInt8) (ht : s.length < 8001) :
    Calls Tryz.prog 134 #[.pointer (some ⟨wp, 0, none⟩), .int .u8 (c.toNat : Int)] w fun x w' => x = .returned .nilIface ∧ WrA w' base wp (s ++ [c]) pt ∧ KpO 5 base wp w w' := by
  obtain ⟨cs, h1, h2, h3, h4⟩ := h.at_
  refine (h1.byte c h.le (by omega)).mono ?_
  rintro x w' ⟨rfl, ⟨v', hB⟩, hk⟩
  have hbel := hk.to_below h1.ge h.le
  refine ⟨rfl, ⟨⟨_, hB, by simp [h2], ?_, fun e => by simp at e⟩, Nat.le_trans h.le hbel.size, by simp; omega⟩, hk⟩
  rw [Array.set!_eq_setIfInBounds, Array.getElem?_setIfInBounds_ne (by omega), Array.set!_eq_setIfInBounds, Array.getElem?_setIfInBounds_ne (by omega)]
  exact h3
theorem WrA.len {w : World} {base wp : Nat} {s : By} {pt : Bool} (h : WrA w base wp s pt) : Calls Tryz.prog 126 #[.pointer (some ⟨wp, 0, none⟩)] w fun x w' => x = .returned (.int .i64 (s.length : Int)) ∧ w' = w := by
  obtain ⟨cs, h1, _⟩ := h.at_
  exact h1.len
theorem WrA.string {w : World} {base wp : Nat} {s : By} {pt : Bool} (h : WrA w base wp s pt) : Calls Tryz.prog 67 #[.pointer (some ⟨wp, 0, none⟩)] w fun x w' => x = .returned (.string ⟨s.toArray⟩) ∧ Below base w w' := by
  obtain ⟨cs, h1, h2, h3, h4⟩ := h.at_
  refine (h1.string h4).mono ?_
  rintro x w' ⟨rfl, _, hk, _⟩
  exact ⟨rfl, hk.to_below h1.ge h.le⟩
theorem KpO.of_below {base wp : Nat} {w w' : World} (h : Below w.heap.size w w') : KpO 5 base wp w w' := Kept.of_below h
/-- A block of another type stays. -/
theorem KpO.box {base wp k : Nat} {w w' : World} (h : KpO 5 base wp w w') {cs : Array Value} {t : TypeId} {f : Nat × Nat} (hk : w.heap[k]? = some (.cells cs t f)) (ht : t ≠ 5) (hw : k ≠ wp) : w'.heap[k]? = some (.cells cs t f) :=
  (h.block k (lt_of_block hk) (fun hf => by
    rcases hf with e | ⟨_, c, f', e⟩
    · exact hw e
    · rw [hk] at e
      injection e with e
      injection e with _ e _
      exact ht e)).trans hk
theorem WrA.ne {w : World} {base wp k : Nat} {s : By} {pt : Bool} (h : WrA w base wp s pt) {cs : Array Value} {t : TypeId} {f : Nat × Nat} (hk : w.heap[k]? = some (.cells cs t f)) (ht : t ≠ 120) : k ≠ wp := fun e => by
  obtain ⟨cs', h1, _⟩ := h.at_
  rw [e, h1.blk] at hk
  injection hk with hk
  injection hk with _ hk _
  exact ht hk.symm
end Go.Proofs.YtlmhofjiobmodaaGreatDoor
/-
  The writer's mustHold, other, word, name by their contracts, where they go well. Condition: what is written fits.
-/
namespace Go.Proofs.YtlmhofjiobmodaaGreatDoor
open Go.RowKit Go.Lib

/-- What the writer comes to. -/
abbrev WS := By × Bool
def othW (t : By) (s : WS) : Option WS := if (s.1 ++ t).length ≤ 8000 then some (s.1 ++ t, true) else none
def blkW (s : WS) : By := if s.2 = true then s.1 else s.1 ++ [32]
def wrdW (t : By) (s : WS) : Option WS := if (blkW s ++ t).length ≤ 8000 then some (blkW s ++ t, false) else none
def namW (t : By) (s : WS) : Option WS := if nmB t = true ∧ t.length ≤ 8000 then wrdW t s else none
def PostW (base wp : Nat) (w : World) (x : WS) (e : Ending) (w' : World) : Prop := e = .returned (.tuple #[]) ∧ WrA w' base wp x.1 x.2 ∧ KpO 5 base wp w w'
theorem othW_some {t : By} {s x : WS} (h : othW t s = some x) : (s.1 ++ t).length ≤ 8000 ∧ x = (s.1 ++ t, true) := by
  unfold othW at h
  split at h
  · exact ⟨by assumption, (Option.some.inj h).symm⟩
  · cases h
theorem wrdW_some {t : By} {s x : WS} (h : wrdW t s = some x) : (blkW s ++ t).length ≤ 8000 ∧ x = (blkW s ++ t, false) := by
  unfold wrdW at h
  split at h
  · exact ⟨by assumption, (Option.some.inj h).symm⟩
  · cases h
set_option maxRecDepth 100000 in
theorem must_ok (w : World) : Calls Tryz.prog 65 #[.bool true] w fun e w' => e = .returned (.tuple #[]) ∧ w' = w := by
  go_enter Tryz.func65, Tryz.ntmps65
  go_wp2
  go_end0
  exact ⟨rfl, rfl⟩
set_option maxRecDepth 100000 in
theorem must_bad (w : World) : Calls Tryz.prog 65 #[.bool false] w fun e w' => e = pan 93 0 ∧ w' = w := by
  go_enter Tryz.func65, Tryz.ntmps65
  go_wp2
  exact ⟨rfl, rfl, rfl⟩
set_option maxHeartbeats 1000000 in
set_option maxRecDepth 100000 in
theorem other_ok {w : World} {base wp : Nat} {s : WS} {t : By} {x : WS} (h : WrA w base wp s.1 s.2) (hx : othW t s = some x) : Calls Tryz.prog 105 #[.pointer (some ⟨wp, 0, none⟩), .string ⟨t.toArray⟩] w (PostW base wp w x) := by
  obtain ⟨hl, rfl⟩ := othW_some hx
  have HL := hide hl
  have HA := hide (h.str t (by omega))
  have HM := hide must_ok
  clear hx hl
  go_enter Tryz.func105, Tryz.ntmps105
  go_upto_region 1 with (go_at_call 136; refine HA.out.mono ?_; rintro e w1 ⟨rfl, r1, x1⟩; have R1 := hide r1; have X1 := hide x1; clear r1 x1)
  obtain ⟨c1, f1⟩ := R1.out.cell
  have HS := hide (R1.out.set true)
  go_upto_region 2 with fail
  clear c1 f1 HA R1
  generalize w1.setCell ⟨wp, 2, none⟩ (.bool true) = w2 at *
  have HN := hide HS.out.1.len
  have hlt : ((s.1 ++ t).length : Int) ≤ 8000 := by have := HL.out; omega
  generalize (s.1 ++ t).length = n at *
  go_wp2_with (first | (go_at_call 126; refine HN.out.mono ?_; rintro e w3 ⟨rfl, hw⟩; subst hw) | (go_at_call 65; refine (HM.out _).mono ?_; rintro e w4 ⟨rfl, hw⟩; subst hw))
  go_end0
  exact ⟨rfl, HS.out.1, X1.out.trans HS.out.2⟩
set_option maxHeartbeats 1000000 in
set_option maxRecDepth 100000 in
theorem word_ok {w : World} {base wp : Nat} {s : WS} {t : By} {x : WS} (h : WrA w base wp s.1 s.2) (hx : wrdW t s = some x) : Calls Tryz.prog 103 #[.pointer (some ⟨wp, 0, none⟩), .string ⟨t.toArray⟩] w (PostW base wp w x) := by
  obtain ⟨hl, rfl⟩ := wrdW_some hx
  obtain ⟨s, pt⟩ := s
  unfold blkW at hl ⊢
  simp only at h hl ⊢
  have HH := hide h
  obtain ⟨c0, f0⟩ := h.cell
  clear hx h
  cases pt with
  | true =>
    rw [if_pos rfl] at hl ⊢
    have HO := hide (other_ok (s := (s, true)) (t := t) (x := (s ++ t, true)) HH.out (if_pos hl))
    clear hl
    go_enter Tryz.func103, Tryz.ntmps103
    go_upto_region 3 with (go_at_call 105; refine HO.out.mono ?_; rintro e w1 ⟨rfl, r1, x1⟩; have R1 := hide r1; have X1 := hide x1; clear r1 x1)
    obtain ⟨c1, f1⟩ := R1.out.cell
    have HS := hide (R1.out.set false)
    clear c0 f0
    go_wp2
    go_end0
    exact ⟨rfl, HS.out.1, X1.out.trans HS.out.2⟩
  | false =>
    rw [if_neg (by decide)] at hl ⊢
    have HB := hide (HH.out.byte 32 (by rw [List.length_append, List.length_append] at hl; simp at hl; omega))
    have HO := hide (fun w1 (r : WrA w1 base wp (s ++ [32]) false) => other_ok (s := (s ++ [32], false)) (t := t) (x := (s ++ [32] ++ t, true)) r (if_pos hl))
    clear hl
    go_enter Tryz.func103, Tryz.ntmps103
    go_upto_region 2 with (go_at_call 134; refine HB.out.mono ?_; rintro e w0 ⟨rfl, r0, x0⟩; have R0 := hide r0; have X0 := hide x0; clear r0 x0)
    clear HB c0 f0
    go_upto_region 3 with (go_at_call 105; refine (HO.out _ R0.out).mono ?_; rintro e w1 ⟨rfl, r1, x1⟩; have R1 := hide r1; have X1 := hide x1; clear r1 x1)
    obtain ⟨c1, f1⟩ := R1.out.cell
    have HS := hide (R1.out.set false)
    clear HO
    go_wp2
    go_end0
    exact ⟨rfl, HS.out.1, X0.out.trans (X1.out.trans HS.out.2)⟩
set_option maxHeartbeats 1000000 in
set_option maxRecDepth 100000 in
theorem name_ok {w : World} {base wp : Nat} {s : WS} {t : By} {x : WS} (h : WrA w base wp s.1 s.2) (hx : namW t s = some x) : Calls Tryz.prog 104 #[.pointer (some ⟨wp, 0, none⟩), .string ⟨t.toArray⟩] w (PostW base wp w x) := by
  unfold namW at hx
  split at hx
  · rename_i hn
    have HN := hide (isName_any t w (by omega))
    rw [hn.1] at HN
    have HM := hide must_ok
    have HW := hide (fun w1 (y : Below w.heap.size w w1) => word_ok (h.below y) hx)
    clear hn hx h
    go_enter Tryz.func104, Tryz.ntmps104
    go_upto_region 1 with (first | (go_at_call 135; refine HN.out.mono ?_; rintro e w1 ⟨rfl, x1⟩; have X1 := hide x1; clear x1) | (go_at_call 65; refine (HM.out _).mono ?_; rintro e w2 ⟨rfl, hw⟩; subst hw))
    go_wp2_with (go_at_call 103; refine (HW.out _ X1.out).mono ?_; rintro e w3 ⟨rfl, r3, x3⟩; have R3 := hide r3; have X3 := hide x3; clear r3 x3)
    go_end0
    exact ⟨rfl, R3.out, (KpO.of_below X1.out).trans X3.out⟩
  · cases hx
end Go.Proofs.YtlmhofjiobmodaaGreatDoor
