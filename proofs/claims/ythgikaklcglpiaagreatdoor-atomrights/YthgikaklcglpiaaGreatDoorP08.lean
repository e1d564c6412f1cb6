/-
  Quote by its contract. Condition: the text is no longer than a process can hold.
-/
import Derived.Test.YthgikaklcglpiaaGreatDoorP07
namespace Go.Proofs.YthgikaklcglpiaaGreatDoor.L9
open Go.RowKit Go.Lib

/-- A byte as it stands in quotes. -/
def escB (b : UInt8) : By := if esB (bI b) = true then [92, b] else [b]
def escL (s : By) : By := (s.map escB).flatten
theorem escL_snoc (s : By) (b : UInt8) : escL (s ++ [b]) = escL s ++ escB b := by simp [escL]
theorem escL_len (s : By) : (escL s).length ≤ 2 * s.length := by
  induction s with
  | nil => simp [escL]
  | cons b t ih =>
    have : escL (b :: t) = escB b ++ escL t := by simp [escL]
    have h2 : (escB b).length ≤ 2 := by unfold escB; split <;> simp
    rw [this, List.length_append, List.length_cons]
    omega
/-- What Quote tells. -/
def quoP (s : By) : Int × By := if 200 < s.length then (1, []) else if s.all (fun b => txB (bI b)) = true then (0, 34 :: escL s ++ [34]) else (1, [])
theorem lies45 : liesAt Tryz.prog Tryz.prog.depth 209 (2 / Tryz.prog.cellsOf 209) 0 209 1 = true := by kernel_rfl
theorem kept_bub {w : World} {base b o k : Nat} {e : TypeId} {cs : Array Value} {l : By} (h : BuB w base b o e cs l) {t : ByteArray} {pos : Nat} (hk : w.heap[k]? = some (.stringIter t pos)) (q : Nat) : BuB (w.iterAt k t q) base b o e cs l := by
  have hne : ∀ j c e f, w.heap[j]? = some (.cells c e f) → ¬ j = k := fun j c e f hj e' => by rw [e', hk] at hj; cases hj
  obtain ⟨v, hv, hr⟩ := h.row
  refine ⟨(Lib.iterAt_other w k b t q (hne b _ _ _ h.blk)).trans h.blk, h.ge, h.ho, h.lies, h.ne, h.ad, v, hv, own_kept hr (kept_iter w k t q) (fun j hj => ?_)⟩
  obtain ⟨c, hc⟩ := own_ty hr j hj
  exact hne _ _ _ _ hc
theorem KpO.iter {t : TypeId} {base b k : Nat} {w w' : World} {s : ByteArray} {q : Nat} (h : KpO t base b w w') (hk : w.heap[k]? = some (.stringIter s q)) (hb : k ≠ b) : w'.heap[k]? = some (.stringIter s q) := by
  rw [Kept.block h k (lt_of_block hk) ?_, hk]
  rintro (h1 | ⟨_, c, f, h1⟩)
  · exact hb h1
  · rw [hk] at h1; cases h1
theorem KpO.to_below {t : TypeId} {base b : Nat} {w w' : World} (h : KpO t base b w w') (hb : base ≤ b) (hs : base ≤ w.heap.size) : Below base w w' := Kept.below h hs (fun i hi => by
  rcases hi with h1 | ⟨h1, _⟩
  · omega
  · exact h1)
/-- A builder in a block of its own. -/
def BuO (w : World) (P : Nat) (l : By) : Prop := ∃ cs, BuB w P P 0 209 cs l ∧ cs.size = 2
theorem BuO.byte {w : World} {P : Nat} {l : By} (h : BuO w P l) (c : UInt8) (hb : P ≤ w.heap.size) (hl : l.length ≤ 140737488351232) :
    Calls Tryz.prog 201 #[.pointer (some ⟨P, 0, none⟩), .int .u8 (c.toNat : Int)] w fun x w' => x = .returned .nilIface ∧ BuO w' P (l ++ [c]) ∧ KpO 5 P P w w' := by
  obtain ⟨cs, h, hc⟩ := h
  refine (h.byte c hb hl).mono ?_
  rintro x w' ⟨rfl, ⟨v', h2⟩, k⟩
  exact ⟨rfl, ⟨_, h2, by simpa using hc⟩, k⟩
theorem BuO.rune {w : World} {P : Nat} {l : By} (h : BuO w P l) (c : UInt8) (hc1 : c.toNat < 128) (hb : P ≤ w.heap.size) (hl : l.length ≤ 140737488351232) :
    Calls Tryz.prog 257 #[.pointer (some ⟨P, 0, none⟩), .int .i32 (c.toNat : Int)] w fun x w' => x = .returned (.tuple #[.int .i64 1, .nilIface]) ∧ BuO w' P (l ++ [c]) ∧ KpO 5 P P w w' := by
  obtain ⟨cs, h, hc⟩ := h
  refine (h.rune c hc1 hb hl).mono ?_
  rintro x w' ⟨rfl, ⟨v', h2⟩, k⟩
  exact ⟨rfl, ⟨_, h2, by simpa using hc⟩, k⟩
theorem BuO.iter {w : World} {P k : Nat} {l : By} (h : BuO w P l) {t : ByteArray} {pos : Nat} (hk : w.heap[k]? = some (.stringIter t pos)) (q : Nat) : BuO (w.iterAt k t q) P l := by
  obtain ⟨cs, h, hc⟩ := h
  exact ⟨cs, kept_bub h hk q, hc⟩
theorem BuO.below {w w' : World} {P : Nat} {l : By} (h : BuO w P l) (y : Below w.heap.size w w') : BuO w' P l := by
  obtain ⟨cs, h, hc⟩ := h
  obtain ⟨v, hv, hr⟩ := h.row
  exact ⟨cs, ⟨(y.block P (lt_of_block h.blk)).trans h.blk, h.ge, h.ho, h.lies, h.ne, h.ad, v, hv, own_below hr y⟩, hc⟩
theorem tx_high {r : Int} (h : 128 ≤ r) : txB r = false := by unfold txB; have : decide (r ≤ 126) = false := (by simp; omega); rw [this, Bool.and_false]
set_option maxHeartbeats 4000000 in
set_option maxRecDepth 100000 in
theorem quote_any (s : By) (w : World) (hs : s.length ≤ 140737488351232) :
    Calls Tryz.prog 360 #[.string ⟨s.toArray⟩] w fun e w' => e = .returned (.tuple #[.string ⟨(quoP s).2.toArray⟩, .int .i64 (quoP s).1]) ∧ Below w.heap.size w w' := by
  have hsz := bs_size s
  by_cases hl : 200 < s.length
  · have hl' : (200 : Int) < (s.length : Int) := by omega
    have HQ : Hid (quoP s = (1, [])) := by unfold Hid quoP; rw [if_pos hl]
    go_enter Tryz.func360, Tryz.ntmps360
    go_wp2
    go_ret2
    rw [HQ.out]
    exact ⟨rfl, Below.refl _ _⟩
  · have hl' : ¬ (200 : Int) < (s.length : Int) := by omega
    have HQ : Hid (quoP s = if s.all (fun b => txB (bI b)) = true then (0, 34 :: escL s ++ [34]) else (1, [])) := by unfold Hid quoP; rw [if_neg hl]
    obtain ⟨w2, hw2⟩ : ∃ w2, w2 = w.alloc (.cells #[.pointer none, .slice none 0 0] 209) := ⟨_, rfl⟩
    have X2 : Below w.heap.size w w2 := by rw [hw2]; exact al (Below.refl _ _) _
    have B2 : BuO w2 w.heap.size [] := ⟨#[.pointer none, .slice none 0 0], ⟨by rw [hw2]; exact heap_alloc_new w _, Nat.le_refl _, by simp, lies45, ⟨by decide, by decide⟩, .inl rfl, .slice none 0 0, rfl, World.ownsRow_nil _ _ _ _⟩, rfl⟩
    have HB1 := hide (B2.byte 34 X2.size (by simp))
    have HX2 := hide X2
    have hs2 : Hid (w2.heap.size = w.heap.size + 1) := by unfold Hid; rw [hw2]; simp
    clear X2 B2
    go_enter Tryz.func360, Tryz.ntmps360
    go_upto_region 4 with fail
    rw [← hw2]
    clear hw2
    obtain ⟨P, hP⟩ : ∃ P, P = w.heap.size := ⟨_, rfl⟩
    have HPW := hide hP
    rw [← hP] at HB1 HX2 hs2 ⊢
    clear hP
    go_upto_region 5 with (go_at_call 201; refine HB1.out.mono ?_; rintro e w3 ⟨rfl, hB, hK⟩; have HB := hide hB; have HK := hide hK; clear hB hK)
    clear HB1
    have HZ3 : Hid (P + 1 ≤ w3.heap.size) := by have := HK.out.size; have := hs2.out; unfold Hid; omega
    have HX3 := hide (HX2.out.trans (HK.out.to_below (Nat.le_refl _) (by have := hs2.out; omega)))
    obtain ⟨Q, hQ⟩ : ∃ Q, Q = w3.heap.size := ⟨_, rfl⟩
    have HQW := hide hQ
    go_wp2
    rw [← hQ]
    clear hQ
    go_loopw [] (fun wr => ∃ pos : Nat, wr.heap[Q]? = some (.stringIter ⟨s.toArray⟩ pos) ∧ Hid (BuO wr P (34 :: escL (s.take pos))) ∧ Hid (Below P w wr) ∧ pos ≤ s.length ∧ Hid (∀ i (hi : i < s.length), i < pos → txB (bI s[i]) = true)) (fun wr => s.length - wr.iterPos Q)
    case atStart =>
      refine ⟨0, ?_, ?_, ?_, by omega, fun i _ h => by omega⟩
      · have := World.iter_heap w3 ⟨s.toArray⟩ 0
        rw [← HQW.out] at this
        exact this
      · exact HB.out.below ((Below.refl _ w3).alloc (Nat.le_refl _) _)
      · exact bt HX3.out ((Below.refl _ w3).alloc (Nat.le_refl _) _) (by rw [HPW.out]; exact Nat.le_refl _)
    case round =>
      obtain ⟨pos, hit, HB4, HX4, hp1, HT⟩ := hrel
      have hQP : ¬ Q = P := by have := HZ3.out; have := HQW.out; omega
      have hPQ : P ≤ Q := by have := HZ3.out; have := HQW.out; omega
      have HQP := hide hQP
      have hPs : P ≤ wr.heap.size := by have := lt_of_block hit; omega
      by_cases hp : pos < s.length
      · have hp' : pos < (⟨s.toArray⟩ : ByteArray).size := by rw [hsz]; exact hp
        by_cases ha : s[pos].toNat < 128
        · have hnx : ∀ ty, (Instr.next (.pointer (some ⟨Q, 0, none⟩)) true ty).run Tryz.prog wr = _ := fun ty => Lib.run_next_ascii_at wr Q ⟨s.toArray⟩ pos ty hit hp' (by rw [bs_get]; exact ha)
          rw [bs_get] at hnx
          have HI2 := hide (Lib.iterAt_heap wr Q ⟨s.toArray⟩ pos (pos + 1) hit)
          have HX5 := hide (Lib.below_iterAt HX4.out (k := Q) hPQ ⟨s.toArray⟩ (pos + 1))
          have HB5 := hide (HB4.out.iter hit (pos + 1))
          have HZ5 : Hid (P ≤ (wr.iterAt Q ⟨s.toArray⟩ (pos + 1)).heap.size) := by unfold Hid; rw [Lib.iterAt_size]; exact hPs
          have HE1 := hide (fun W => isText_any (bI s[pos]) W)
          have HE2 := hide (fun W => isEsc_any (bI s[pos]) W)
          have hlen : (34 :: escL (s.take pos)).length ≤ 1000 := by have := escL_len (s.take pos); simp at this ⊢; omega
          have HSN : Hid (s.take (pos + 1) = s.take pos ++ [s[pos]]) := List.take_succ_eq_append_getElem hp
          cases htx : txB (bI s[pos]) with
          | false =>
            have HAL : Hid (s.all (fun b => txB (bI b)) = false) := by
              unfold Hid
              rw [List.all_eq_false]
              exact ⟨s[pos], List.getElem_mem hp, by simp [htx]⟩
            rw [htx] at HE1
            clear htx
            unfold bI at HE1 HE2
            generalize s[pos].toNat = r at *
            go_wp2_with (go_at_call 366; refine (HE1.out _).mono ?_; rintro e wz ⟨rfl, hwz⟩; have hwz := hwz.symm; subst hwz)
            go_ret2
            rw [HQ.out, if_neg (by rw [HAL.out]; decide)]
            exact ⟨rfl, by have := HPW.out; rw [← this]; exact HX5.out⟩
          | true =>
            have HT2 : Hid (∀ i (hi : i < s.length), i < pos + 1 → txB (bI s[i]) = true) := fun i hi h => by
              by_cases h3 : i < pos
              · exact HT.out i hi h3
              · obtain rfl : i = pos := by omega
                exact htx
            rw [htx] at HE1
            clear htx
            cases hes : esB (bI s[pos]) with
            | false =>
              have HEL : Hid ((34 :: escL (s.take pos)) ++ [s[pos]] = 34 :: escL (s.take (pos + 1))) := by
                unfold Hid
                rw [HSN.out, escL_snoc]
                unfold escB
                rw [if_neg (by simp [hes])]
                rfl
              have HW := hide (HB5.out.rune s[pos] ha HZ5.out (by omega))
              rw [HEL.out] at HW
              rw [hes] at HE2
              clear hes
              unfold bI at HE1 HE2
              generalize s[pos].toNat = r at *
              go_wp2_with (first | (go_at_call 366; refine (HE1.out _).mono ?_; rintro e wz ⟨rfl, hwz⟩; have hwz := hwz.symm; subst hwz) | (go_at_call 367; refine (HE2.out _).mono ?_; rintro e wz ⟨rfl, hwz⟩; have hwz := hwz.symm; subst hwz) | (go_at_call 257; refine HW.out.mono ?_; rintro e w6 ⟨rfl, hB, hK⟩; have HB6 := hide hB; have HK6 := hide hK; clear hB hK))
              have HI6 := hide (HK6.out.iter HI2.out HQP.out)
              have HX6 := hide (HX5.out.trans (HK6.out.to_below (Nat.le_refl _) HZ5.out))
              go_roundw
              case rel => exact ⟨pos + 1, HI6.out, HB6, HX6, hp, HT2⟩
              case measure =>
                simp only [World.iterPos, HI6.out, hit]
                omega
            | true =>
              have HEL : Hid (((34 :: escL (s.take pos)) ++ [92]) ++ [s[pos]] = 34 :: escL (s.take (pos + 1))) := by
                unfold Hid
                rw [HSN.out, escL_snoc]
                unfold escB
                rw [if_pos hes]
                simp
              have HW := hide (HB5.out.byte 92 HZ5.out (by omega))
              have HR : Hid (∀ W, BuO W P ((34 :: escL (s.take pos)) ++ [92]) → P ≤ W.heap.size → Calls Tryz.prog 257 #[.pointer (some ⟨P, 0, none⟩), .int .i32 (s[pos].toNat : Int)] W fun x w' => x = .returned (.tuple #[.int .i64 1, .nilIface]) ∧ BuO w' P (34 :: escL (s.take (pos + 1))) ∧ KpO 5 P P W w') := fun W h1 h2 => by
                rw [← HEL.out]
                exact h1.rune s[pos] ha h2 (by simp at hlen ⊢; omega)
              rw [hes] at HE2
              clear hes
              unfold bI at HE1 HE2
              have HW' : Hid (Calls Tryz.prog 201 #[.pointer (some ⟨P, 0, none⟩), .int .u8 92] (wr.iterAt Q ⟨s.toArray⟩ (pos + 1)) fun x w' => x = .returned .nilIface ∧ BuO w' P ((34 :: escL (s.take pos)) ++ [92]) ∧ KpO 5 P P (wr.iterAt Q ⟨s.toArray⟩ (pos + 1)) w') := HW
              clear HW
              generalize s[pos].toNat = r at *
              go_wp2_with (first | (go_at_call 366; refine (HE1.out _).mono ?_; rintro e wz ⟨rfl, hwz⟩; have hwz := hwz.symm; subst hwz) | (go_at_call 367; refine (HE2.out _).mono ?_; rintro e wz ⟨rfl, hwz⟩; have hwz := hwz.symm; subst hwz) | (go_at_call 201; refine HW'.out.mono ?_; rintro e w5 ⟨rfl, hB, hK⟩; have HR2 := hide (HR.out w5 hB (by have := hK.size; have := HZ5.out; omega)); have HK5 := hide hK; clear hB hK) | (go_at_call 257; refine HR2.out.mono ?_; rintro e w6 ⟨rfl, hB, hK⟩; have HB6 := hide hB; have HK6 := hide hK; clear hB hK))
              have HKK := hide (HK5.out.trans HK6.out)
              have HI6 := hide (HKK.out.iter HI2.out HQP.out)
              have HX6 := hide (HX5.out.trans (HKK.out.to_below (Nat.le_refl _) HZ5.out))
              go_roundw
              case rel => exact ⟨pos + 1, HI6.out, HB6, HX6, hp, HT2⟩
              case measure =>
                simp only [World.iterPos, HI6.out, hit]
                omega
        · have hnx : ∀ ty, (Instr.next (.pointer (some ⟨Q, 0, none⟩)) true ty).run Tryz.prog wr = _ := fun ty => Lib.run_next_any_at wr Q ⟨s.toArray⟩ pos ty hit hp'
          obtain ⟨hd1, hd2⟩ := rune_high s hp ha
          have HX5 := hide (Lib.below_iterAt HX4.out (k := Q) hPQ ⟨s.toArray⟩ (pos + (Utf8.decode ⟨s.toArray⟩ pos).2))
          have HAL : Hid (s.all (fun b => txB (bI b)) = false) := by
            unfold Hid
            rw [List.all_eq_false]
            exact ⟨s[pos], List.getElem_mem hp, by rw [tx_high (by unfold bI; omega)]; decide⟩
          generalize (Utf8.decode ⟨s.toArray⟩ pos).2 = wd at *
          generalize (Utf8.decode ⟨s.toArray⟩ pos).1 = r at *
          have HE1 := hide (fun W => isText_any (r : Int) W)
          rw [tx_high (by omega)] at HE1
          go_wp2_with (go_at_call 366; refine (HE1.out _).mono ?_; rintro e wz ⟨rfl, hwz⟩; have hwz := hwz.symm; subst hwz)
          go_ret2
          rw [HQ.out, if_neg (by rw [HAL.out]; decide)]
          exact ⟨rfl, by have := HPW.out; rw [← this]; exact HX5.out⟩
      · obtain rfl : pos = s.length := by omega
        have hnx : ∀ ty, (Instr.next (.pointer (some ⟨Q, 0, none⟩)) true ty).run Tryz.prog wr = _ := fun ty => Lib.run_next_end_at wr Q ⟨s.toArray⟩ s.length ty hit (by rw [hsz]; exact hp)
        have HAL : Hid (s.all (fun b => txB (bI b)) = true) := by
          unfold Hid
          rw [List.all_eq_true]
          intro b hb
          obtain ⟨i, hi, rfl⟩ := List.getElem_of_mem hb
          exact HT.out i hi hi
        have hlen : (34 :: escL (s.take s.length)).length ≤ 1000 := by have := escL_len (s.take s.length); simp at this ⊢; omega
        have HW := hide (HB4.out.byte 34 hPs (by omega))
        rw [List.take_length] at HW
        have HW' : Hid (Calls Tryz.prog 201 #[.pointer (some ⟨P, 0, none⟩), .int .u8 34] wr fun x w' => x = .returned .nilIface ∧ BuO w' P (34 :: escL s ++ [34]) ∧ KpO 5 P P wr w') := HW
        clear HW
        go_wp2_with (first | (go_at_call 201; refine HW'.out.mono ?_; rintro e w5 ⟨rfl, hB, hK⟩; obtain ⟨cs, hB, hcs⟩ := hB; have HS := hide (hB.string (fun e => by simp at e)); have HK5 := hide hK; clear hB hK) | (go_at_call 194; refine HS.out.mono ?_; rintro e w6 ⟨rfl, -, hK, -⟩; have HK6 := hide hK; clear hK))
        go_ret2
        rw [HQ.out, if_pos HAL.out]
        exact ⟨rfl, by have := HPW.out; rw [← this]; exact HX4.out.trans ((HK5.out.trans HK6.out).to_below (Nat.le_refl _) hPs)⟩
end Go.Proofs.YthgikaklcglpiaaGreatDoor.L9
