/-
  Quote by its contract. Condition: the text is no longer than a process can hold.
-/
import Derived.Test.YtkpdbbbeagnjpaaGreatDoorQ10
namespace Go.Proofs.YtkpdbbbeagnjpaaGreatDoor
open Go.RowKit Go.Lib

/-- A byte as it stands in quotes. -/
def escB (b : UInt8) : By := if esB (bI b) = true then [92, b] else [b]
def escL (s : By) : By := (s.map escB).flatten
theorem escL_snoc (s : By) (b : UInt8) : escL (s ++ [b]) = escL s ++ escB b := by simp [escL]
theorem escL_len (s : By) : (escL s).length ≤ 2 * s.length := by
  induction s with
  | nil => simp [escL]
  | cons b t ih =>
    have : escL (b :: t) = escB b ++ escL t := by simp [escL]
    have h2 : (escB b).length ≤ 2 := by unfold escB; split <;> simp
    rw [this, List.length_append, List.length_cons]
    omega
/-- What Quote tells. -/
def quoP (s : By) : Int × By := if 200 < s.length then (1, []) else if s.all (fun b => txB (bI b)) = true then (0, 34 :: escL s ++ [34]) else (1, [])
theorem lies45 : liesAt Tryz.prog Tryz.prog.depth 45 (2 / Tryz.prog.cellsOf 45) 0 45 1 = true := by kernel_rfl
theorem kept_bub {w : World} {base b o k : Nat} {e : TypeId} {cs : Array Value} {l : By} (h : BuB w base b o e cs l) {t : ByteArray} {pos : Nat} (hk : w.heap[k]? = some (.stringIter t pos)) (q : Nat) : BuB (w.iterAt k t q) base b o e cs l := by
  have hne : ∀ j c e f, w.heap[j]? = some (.cells c e f) → ¬ j = k := fun j c e f hj e' => by rw [e', hk] at hj; cases hj
  obtain ⟨v, hv, hr⟩ := h.row
  refine ⟨(Lib.iterAt_other w k b t q (hne b _ _ _ h.blk)).trans h.blk, h.ge, h.ho, h.lies, h.ne, h.ad, v, hv, own_kept hr (kept_iter w k t q) (fun j hj => ?_)⟩
  obtain ⟨c, hc⟩ := own_ty hr j hj
  exact hne _ _ _ _ hc
theorem KpO.iter {t : TypeId} {base b k : Nat} {w w' : World} {s : ByteArray} {q : Nat} (h : KpO t base b w w') (hk : w.heap[k]? = some (.stringIter s q)) (hb : k ≠ b) : w'.heap[k]? = some (.stringIter s q) := by
  rw [Kept.block h k (lt_of_block hk) ?_, hk]
  rintro (h1 | ⟨_, c, f, h1⟩)
  · exact hb h1
  · rw [hk] at h1; cases h1
theorem KpO.to_below {t : TypeId} {base b : Nat} {w w' : World} (h : KpO t base b w w') (hb : base ≤ b) (hs : base ≤ w.heap.size) : Below base w w' := Kept.below h hs (fun i hi => by
  rcases hi with h1 | ⟨h1, _⟩
  · omega
  · exact h1)
/-- A builder in a block of its own. -/
def BuO (w : World) (P : Nat) (l : By) : Prop := ∃ cs, BuB w P P 0 45 cs l ∧ cs.size = 2
theorem BuO.byte {w : World} {P : Nat} {l : By} (h : BuO w P l) (c : UInt8) (hb : P ≤ w.heap.size) (hl : l.length ≤ 140737488351232) :
    Calls Tryz.prog 22 #[.pointer (some ⟨P, 0, none⟩), .int .u8 (c.toNat : Int)] w fun x w' => x = .returned .nilIface ∧ BuO w' P (l ++ [c]) ∧ KpO 5 P P w w' := by
  obtain ⟨cs, h, hc⟩ := h
  refine (h.byte c hb hl).mono ?_
  rintro x w' ⟨rfl, ⟨v', h2⟩, k⟩
  exact ⟨rfl, ⟨_, h2, by simpa using hc⟩, k⟩
theorem BuO.rune {w : World} {P : Nat} {l : By} (h : BuO w P l) (c : UInt8) (hc1 : c.toNat < 128) (hb : P ≤ w.heap.size) (hl : l.length ≤ 140737488351232) :
    Calls Tryz.prog 25 #[.pointer (some ⟨P, 0, none⟩), .int .i32 (c.toNat : Int)] w fun x w' => x = .returned (.tuple #[.int .i64 1, .nilIface]) ∧ BuO w' P (l ++ [c]) ∧ KpO 5 P P w w' := by
  obtain ⟨cs, h, hc⟩ := h
  refine (h.rune c hc1 hb hl).mono ?_
  rintro x w' ⟨rfl, ⟨v', h2⟩, k⟩
  exact ⟨rfl, ⟨_, h2, by simpa using hc⟩, k⟩
theorem BuO.iter {w : World} {P k : Nat} {l : By} (h : BuO w P l) {t : ByteArray} {pos : Nat} (hk : w.heap[k]? = some (.stringIter t pos)) (q : Nat) : BuO (w.iterAt k t q) P l := by
  obtain ⟨cs, h, hc⟩ := h
  exact ⟨cs, kept_bub h hk q, hc⟩
theorem BuO.below {w w' : World} {P : Nat} {l : By} (h : BuO w P l) (y : Below w.heap.size w w') : BuO w' P l := by
  obtain ⟨cs, h, hc⟩ := h
  obtain ⟨v, hv, hr⟩ := h.row
  exact ⟨cs, ⟨(y.block P (lt_of_block h.blk)).trans h.blk, h.ge, h.ho, h.lies, h.ne, h.ad, v, hv, own_below hr y⟩, hc⟩
theorem tx_highQ {r : Int} (h : 128 ≤ r) : txB r = false := by unfold txB; have : decide (r ≤ 126) = false := (by simp; omega); rw [this, Bool.and_false]
set_option maxHeartbeats 4000000 in
set_option maxRecDepth 100000 in
theorem quote_any (s : By) (w : World) (hs : s.length ≤ 140737488351232) :
    Calls Tryz.prog 12 #[.string ⟨s.toArray⟩] w fun e w' => e = .returned (.tuple #[.string ⟨(quoP s).2.toArray⟩, .int .i64 (quoP s).1]) ∧ Below w.heap.size w w' := by
  have hsz := bs_size s
  by_cases hl : 200 < s.length
  · have hl' : (200 : Int) < (s.length : Int) := by omega
    have HQ : Hid (quoP s = (1, [])) := by unfold Hid quoP; rw [if_pos hl]
    go_enter Tryz.func12, Tryz.ntmps12
    go_wp2
    go_ret2
    rw [HQ.out]
    exact ⟨rfl, Below.refl _ _⟩
  · have hl' : ¬ (200 : Int) < (s.length : Int) := by omega
    have HQ : Hid (quoP s = if s.all (fun b => txB (bI b)) = true then (0, 34 :: escL s ++ [34]) else (1, [])) := by unfold Hid quoP; rw [if_neg hl]
    obtain ⟨w2, hw2⟩ : ∃ w2, w2 = w.alloc (.cells #[.pointer none, .slice none 0 0] 45) := ⟨_, rfl⟩
    have X2 : Below w.heap.size w w2 := by rw [hw2]; exact al (Below.refl _ _) _
    have B2 : BuO w2 w.heap.size [] := ⟨#[.pointer none, .slice none 0 0], ⟨by rw [hw2]; exact heap_alloc_new w _, Nat.le_refl _, by simp, lies45, ⟨by decide, by decide⟩, .inl rfl, .slice none 0 0, rfl, World.ownsRow_nil _ _ _ _⟩, rfl⟩
    have HB1 := hide (B2.byte 34 X2.size (by simp))
    have HX2 := hide X2
    have hs2 : Hid (w2.heap.size = w.heap.size + 1) := by unfold Hid; rw [hw2]; simp
    clear X2 B2
    go_enter Tryz.func12, Tryz.ntmps12
    go_upto_region 4 with fail
    rw [← hw2]
    clear hw2
    obtain ⟨P, hP⟩ : ∃ P, P = w.heap.size := ⟨_, rfl⟩
    have HPW := hide hP
    rw [← hP] at HB1 HX2 hs2 ⊢
    clear hP
    go_upto_region 5 with (go_at_call 22; refine HB1.out.mono ?_; rintro e w3 ⟨rfl, hB, hK⟩; have HB := hide hB; have HK := hide hK; clear hB hK)
    clear HB1
    have HZ3 : Hid (P + 1 ≤ w3.heap.size) := by have := HK.out.size; have := hs2.out; unfold Hid; omega
    have HX3 := hide (HX2.out.trans (HK.out.to_below (Nat.le_refl _) (by have := hs2.out; omega)))
    obtain ⟨Q, hQ⟩ : ∃ Q, Q = w3.heap.size := ⟨_, rfl⟩
    have HQW := hide hQ
    go_wp2
    rw [← hQ]
    clear hQ
    go_loopw [] (fun wr => ∃ pos : Nat, wr.heap[Q]? = some (.stringIter ⟨s.toArray⟩ pos) ∧ Hid (BuO wr P (34 :: escL (s.take pos))) ∧ Hid (Below P w wr) ∧ pos ≤ s.length ∧ Hid (∀ i (hi : i < s.length), i < pos → txB (bI s[i]) = true)) (fun wr => s.length - wr.iterPos Q)
    case atStart =>
      refine ⟨0, ?_, ?_, ?_, by omega, fun i _ h => by omega⟩
      · have := World.iter_heap w3 ⟨s.toArray⟩ 0
        rw [← HQW.out] at this
        exact this
      · exact HB.out.below ((Below.refl _ w3).alloc (Nat.le_refl _) _)
      · exact bt HX3.out ((Below.refl _ w3).alloc (Nat.le_refl _) _) (by rw [HPW.out]; exact Nat.le_refl _)
    case round =>
      obtain ⟨pos, hit, HB4, HX4, hp1, HT⟩ := hrel
      have hQP : ¬ Q = P := by have := HZ3.out; have := HQW.out; omega
      have hPQ : P ≤ Q := by have := HZ3.out; have := HQW.out; omega
      have HQP := hide hQP
      have hPs : P ≤ wr.heap.size := by have := lt_of_block hit; omega
      by_cases hp : pos < s.length
      · have hp' : pos < (⟨s.toArray⟩ : ByteArray).size := by rw [hsz]; exact hp
        by_cases ha : s[pos].toNat < 128
        · have hnx : ∀ ty, (Instr.next (.pointer (some ⟨Q, 0, none⟩)) true ty).run Tryz.prog wr = _ := fun ty => Lib.run_next_ascii_at wr Q ⟨s.toArray⟩ pos ty hit hp' (by rw [bs_get]; exact ha)
          rw [bs_get] at hnx
          have HI2 := hide (Lib.iterAt_heap wr Q ⟨s.toArray⟩ pos (pos + 1) hit)
          have HX5 := hide (Lib.below_iterAt HX4.out (k := Q) hPQ ⟨s.toArray⟩ (pos + 1))
          have HB5 := hide (HB4.out.iter hit (pos + 1))
          have HZ5 : Hid (P ≤ (wr.iterAt Q ⟨s.toArray⟩ (pos + 1)).heap.size) := by unfold Hid; rw [Lib.iterAt_size]; exact hPs
          have HE1 := hide (fun W => isText_any (bI s[pos]) W)
          have HE2 := hide (fun W => isEsc_any (bI s[pos]) W)
          have hlen : (34 :: escL (s.take pos)).length ≤ 1000 := by have := escL_len (s.take pos); simp at this ⊢; omega
          have HSN : Hid (s.take (pos + 1) = s.take pos ++ [s[pos]]) := List.take_succ_eq_append_getElem hp
          cases htx : txB (bI s[pos]) with
          | false =>
            have HAL : Hid (s.all (fun b => txB (bI b)) = false) := by
              unfold Hid
              rw [List.all_eq_false]
              exact ⟨s[pos], List.getElem_mem hp, by simp [htx]⟩
            rw [htx] at HE1
            clear htx
            unfold bI at HE1 HE2
            generalize s[pos].toNat = r at *
            go_wp2_with (go_at_call 23; refine (HE1.out _).mono ?_; rintro e wz ⟨rfl, hwz⟩; have hwz := hwz.symm; subst hwz)
            go_ret2
            rw [HQ.out, if_neg (by rw [HAL.out]; decide)]
            exact ⟨rfl, by have := HPW.out; rw [← this]; exact HX5.out⟩
          | true =>
            have HT2 : Hid (∀ i (hi : i < s.length), i < pos + 1 → txB (bI s[i]) = true) := fun i hi h => by
              by_cases h3 : i < pos
              · exact HT.out i hi h3
              · obtain rfl : i = pos := by omega
                exact htx
            rw [htx] at HE1
            clear htx
            cases hes : esB (bI s[pos]) with
            | false =>
              have HEL : Hid ((34 :: escL (s.take pos)) ++ [s[pos]] = 34 :: escL (s.take (pos + 1))) := by
                unfold Hid
                rw [HSN.out, escL_snoc]
                unfold escB
                rw [if_neg (by simp [hes])]
                rfl
              have HW := hide (HB5.out.rune s[pos] ha HZ5.out (by omega))
              rw [HEL.out] at HW
              rw [hes] at HE2
              clear hes
              unfold bI at HE1 HE2
              generalize s[pos].toNat = r at *
              go_wp2_with (first | (go_at_call 23; refine (HE1.out _).mono ?_; rintro e wz ⟨rfl, hwz⟩; have hwz := hwz.symm; subst hwz) | (go_at_call 24; refine (HE2.out _).mono ?_; rintro e wz ⟨rfl, hwz⟩; have hwz := hwz.symm; subst hwz) | (go_at_call 25; refine HW.out.mono ?_; rintro e w6 ⟨rfl, hB, hK⟩; have HB6 := hide hB; have HK6 := hide hK; clear hB hK))
              have HI6 := hide (HK6.out.iter HI2.out HQP.out)
              have HX6 := hide (HX5.out.trans (HK6.out.to_below (Nat.le_refl _) HZ5.out))
              go_roundw
              case rel => exact ⟨pos + 1, HI6.out, HB6, HX6, hp, HT2⟩
              case measure =>
                simp only [World.iterPos, HI6.out, hit]
                omega
            | true =>
              have HEL : Hid (((34 :: escL (s.take pos)) ++ [92]) ++ [s[pos]] = 34 :: escL (s.take (pos + 1))) := by
                unfold Hid
                rw [HSN.out, escL_snoc]
                unfold escB
                rw [if_pos hes]
                simp
              have HW := hide (HB5.out.byte 92 HZ5.out (by omega))
              have HR : Hid (∀ W, BuO W P ((34 :: escL (s.take pos)) ++ [92]) → P ≤ W.heap.size → Calls Tryz.prog 25 #[.pointer (some ⟨P, 0, none⟩), .int .i32 (s[pos].toNat : Int)] W fun x w' => x = .returned (.tuple #[.int .i64 1, .nilIface]) ∧ BuO w' P (34 :: escL (s.take (pos + 1))) ∧ KpO 5 P P W w') := fun W h1 h2 => by
                rw [← HEL.out]
                exact h1.rune s[pos] ha h2 (by simp at hlen ⊢; omega)
              rw [hes] at HE2
              clear hes
              unfold bI at HE1 HE2
              have HW' : Hid (Calls Tryz.prog 22 #[.pointer (some ⟨P, 0, none⟩), .int .u8 92] (wr.iterAt Q ⟨s.toArray⟩ (pos + 1)) fun x w' => x = .returned .nilIface ∧ BuO w' P ((34 :: escL (s.take pos)) ++ [92]) ∧ KpO 5 P P (wr.iterAt Q ⟨s.toArray⟩ (pos + 1)) w') := HW
              clear HW
              generalize s[pos].toNat = r at *
              go_wp2_with (first | (go_at_call 23; refine (HE1.out _).mono ?_; rintro e wz ⟨rfl, hwz⟩; have hwz := hwz.symm; subst hwz) | (go_at_call 24; refine (HE2.out _).mono ?_; rintro e wz ⟨rfl, hwz⟩; have hwz := hwz.symm; subst hwz) | (go_at_call 22; refine HW'.out.mono ?_; rintro e w5 ⟨rfl, hB, hK⟩; have HR2 := hide (HR.out w5 hB (by have := hK.size; have := HZ5.out; omega)); have HK5 := hide hK; clear hB hK) | (go_at_call 25; refine HR2.out.mono ?_; rintro e w6 ⟨rfl, hB, hK⟩; have HB6 := hide hB; have HK6 := hide hK; clear hB hK))
              have HKK := hide (HK5.out.trans HK6.out)
              have HI6 := hide (HKK.out.iter HI2.out HQP.out)
              have HX6 := hide (HX5.out.trans (HKK.out.to_below (Nat.le_refl _) HZ5.out))
              go_roundw
              case rel => exact ⟨pos + 1, HI6.out, HB6, HX6, hp, HT2⟩
              case measure =>
                simp only [World.iterPos, HI6.out, hit]
                omega
        · have hnx : ∀ ty, (Instr.next (.pointer (some ⟨Q, 0, none⟩)) true ty).run Tryz.prog wr = _ := fun ty => Lib.run_next_any_at wr Q ⟨s.toArray⟩ pos ty hit hp'
          obtain ⟨hd1, hd2⟩ := rune_high s hp ha
          have HX5 := hide (Lib.below_iterAt HX4.out (k := Q) hPQ ⟨s.toArray⟩ (pos + (Utf8.decode ⟨s.toArray⟩ pos).2))
          have HAL : Hid (s.all (fun b => txB (bI b)) = false) := by
            unfold Hid
            rw [List.all_eq_false]
            exact ⟨s[pos], List.getElem_mem hp, by rw [tx_highQ (by unfold bI; omega)]; decide⟩
          generalize (Utf8.decode ⟨s.toArray⟩ pos).2 = wd at *
          generalize (Utf8.decode ⟨s.toArray⟩ pos).1 = r at *
          have HE1 := hide (fun W => isText_any (r : Int) W)
          rw [tx_highQ (by omega)] at HE1
          go_wp2_with (go_at_call 23; refine (HE1.out _).mono ?_; rintro e wz ⟨rfl, hwz⟩; have hwz := hwz.symm; subst hwz)
          go_ret2
          rw [HQ.out, if_neg (by rw [HAL.out]; decide)]
          exact ⟨rfl, by have := HPW.out; rw [← this]; exact HX5.out⟩
      · obtain rfl : pos = s.length := by omega
        have hnx : ∀ ty, (Instr.next (.pointer (some ⟨Q, 0, none⟩)) true ty).run Tryz.prog wr = _ := fun ty => Lib.run_next_end_at wr Q ⟨s.toArray⟩ s.length ty hit (by rw [hsz]; exact hp)
        have HAL : Hid (s.all (fun b => txB (bI b)) = true) := by
          unfold Hid
          rw [List.all_eq_true]
          intro b hb
          obtain ⟨i, hi, rfl⟩ := List.getElem_of_mem hb
          exact HT.out i hi hi
        have hlen : (34 :: escL (s.take s.length)).length ≤ 1000 := by have := escL_len (s.take s.length); simp at this ⊢; omega
        have HW := hide (HB4.out.byte 34 hPs (by omega))
        rw [List.take_length] at HW
        have HW' : Hid (Calls Tryz.prog 22 #[.pointer (some ⟨P, 0, none⟩), .int .u8 34] wr fun x w' => x = .returned .nilIface ∧ BuO w' P (34 :: escL s ++ [34]) ∧ KpO 5 P P wr w') := HW
        clear HW
        go_wp2_with (first | (go_at_call 22; refine HW'.out.mono ?_; rintro e w5 ⟨rfl, hB, hK⟩; obtain ⟨cs, hB, hcs⟩ := hB; have HS := hide (hB.string (fun e => by simp at e)); have HK5 := hide hK; clear hB hK) | (go_at_call 26; refine HS.out.mono ?_; rintro e w6 ⟨rfl, -, hK, -⟩; have HK6 := hide hK; clear hK))
        go_ret2
        rw [HQ.out, if_pos HAL.out]
        exact ⟨rfl, by have := HPW.out; rw [← this]; exact HX4.out.trans ((HK5.out.trans HK6.out).to_below (Nat.le_refl _) hPs)⟩
end Go.Proofs.YtkpdbbbeagnjpaaGreatDoor
/-
  The chapter's examples, call by call. No condition.
-/
namespace Go.Proofs.YtkpdbbbeagnjpaaGreatDoor
open Go.RowKit Go.Lib

def sA : By := [108, 101, 116, 32, 97, 45, 49, 32, 61, 32, 34, 120, 92, 34, 121, 34, 59, 32, 35, 32, 122]
def sB : By := [97, 32, 34, 98]
theorem okA : okF sA 0 x0 sA = true := by kernel_rfl
theorem okB : okF sB 0 x0 sB = true := by kernel_rfl
def tkA : List Tk := [⟨1, [108, 101, 116], 0, 0, 0, 0⟩, ⟨2, [97, 45, 49], 0, 0, 0, 4⟩, ⟨7, [61], 0, 0, 0, 8⟩, ⟨6, [120, 34, 121], 0, 0, 0, 10⟩, ⟨7, [59], 0, 0, 0, 16⟩, ⟨8, [], 0, 0, 0, 21⟩]
theorem scanA : scanP sA = .ok tkA := by kernel_rfl
theorem scanB : scanP sB = .error (83, 2) := by kernel_rfl
theorem quoA : quoP [97, 34] = (0, [34, 97, 92, 34, 34]) := by kernel_rfl
theorem quoB : quoP [10] = (1, []) := by kernel_rfl
theorem nmA1 : nmB [97, 95, 45, 49] = true := by kernel_rfl
theorem nmA2 : nmB [119, 104, 101, 110] = false := by kernel_rfl
theorem wdA1 : wdB [119, 104, 101, 110] = true := by kernel_rfl
theorem wdA2 : wdB [97] = false := by kernel_rfl
theorem lenA : sA.length ≤ 8000 := of_decide_eq_true (by kernel_rfl)
theorem lenB : sB.length ≤ 8000 := of_decide_eq_true (by kernel_rfl)
theorem awakeA (w : World) : Calls Tryz.prog 8 #[.string ⟨#[108, 101, 116, 32, 97, 45, 49, 32, 61, 32, 34, 120, 92, 34, 121, 34, 59, 32, 35, 32, 122]⟩] w fun e w' => (∃ g cap, e = .returned (.tuple #[.slice (some ⟨g, 0, none⟩) 6 cap, .int .i64 0, .int .i64 0]) ∧ w'.ownsRow w.heap.size 40 6 (.slice (some ⟨g, 0, none⟩) 6 cap) 6 (tkC tkA)) ∧ Below w.heap.size w w' := by
  have h0 := scan_ok sA w lenA okA
  have h1 : Calls Tryz.prog 8 #[.string ⟨#[108, 101, 116, 32, 97, 45, 49, 32, 61, 32, 34, 120, 92, 34, 121, 34, 59, 32, 35, 32, 122]⟩] w fun e w' => ScnP sA w.heap.size e w' ∧ Below w.heap.size w w' := h0
  refine h1.mono ?_
  rintro e w' ⟨h, x⟩
  unfold ScnP at h
  rw [scanA] at h
  obtain ⟨tv, rfl, ho⟩ := h
  have hl : tkA.length = 6 := rfl
  rw [hl] at ho
  obtain ⟨ao, cap, e1, hg⟩ := own_shape ho
  obtain ⟨g, e2⟩ := hg (by omega)
  subst e1 e2
  exact ⟨⟨g, cap, rfl, ho⟩, x⟩
theorem awakeB (W : World) : Calls Tryz.prog 8 #[.string ⟨#[97, 32, 34, 98]⟩] W fun e w' => e = .returned (.tuple #[.slice none 0 0, .int .i64 83, .int .i64 2]) ∧ Below W.heap.size W w' := by
  have h1 : Calls Tryz.prog 8 #[.string ⟨#[97, 32, 34, 98]⟩] W fun e w' => ScnP sB W.heap.size e w' ∧ Below W.heap.size W w' := scan_ok sB W lenB okB
  refine h1.mono ?_
  rintro e w' ⟨h, x⟩
  unfold ScnP at h
  rw [scanB] at h
  exact ⟨h, x⟩
theorem awakeQ1 (W : World) : Calls Tryz.prog 12 #[.string ⟨#[97, 34]⟩] W fun e w' => e = .returned (.tuple #[.string ⟨#[34, 97, 92, 34, 34]⟩, .int .i64 0]) ∧ Below W.heap.size W w' := by
  have := quote_any [97, 34] W (by simp)
  rw [quoA] at this
  exact this
theorem awakeQ2 (W : World) : Calls Tryz.prog 12 #[.string ⟨#[10]⟩] W fun e w' => e = .returned (.tuple #[.string ⟨#[]⟩, .int .i64 1]) ∧ Below W.heap.size W w' := by
  have := quote_any [10] W (by simp)
  rw [quoB] at this
  exact this
theorem awakeN1 (W : World) : Calls Tryz.prog 16 #[.string ⟨#[97, 95, 45, 49]⟩] W fun e w' => e = .returned (.bool true) ∧ Below W.heap.size W w' := by
  have := isName_any [97, 95, 45, 49] W (by simp)
  rw [nmA1] at this
  exact this
theorem awakeN2 (W : World) : Calls Tryz.prog 16 #[.string ⟨#[119, 104, 101, 110]⟩] W fun e w' => e = .returned (.bool false) ∧ Below W.heap.size W w' := by
  have := isName_any [119, 104, 101, 110] W (by simp)
  rw [nmA2] at this
  exact this
theorem awakeW1 (W : World) : Calls Tryz.prog 14 #[.string ⟨#[119, 104, 101, 110]⟩] W fun e w' => e = .returned (.bool true) ∧ w' = W := by
  have := isWord_any [119, 104, 101, 110] W
  rw [wdA1] at this
  exact this
theorem awakeW2 (W : World) : Calls Tryz.prog 14 #[.string ⟨#[97]⟩] W fun e w' => e = .returned (.bool false) ∧ w' = W := by
  have := isWord_any [97] W
  rw [wdA2] at this
  exact this
theorem eqT0 (w : World) : (Op.equalIn 10000 40 (.agg #[.int .i64 1, .string ⟨#[108, 101, 116]⟩, .int .i64 0, .int .i64 0, .int .i64 0, .int .i64 0]) (.agg #[.int .i64 1, .string ⟨#[108, 101, 116]⟩, .int .i64 0, .int .i64 0, .int .i64 0, .int .i64 0])).run Tryz.prog w = .ok true w := by kernel_rfl
theorem eqT1 (w : World) : (Op.equalIn 10000 40 (.agg #[.int .i64 6, .string ⟨#[120, 34, 121]⟩, .int .i64 0, .int .i64 0, .int .i64 0, .int .i64 10]) (.agg #[.int .i64 6, .string ⟨#[120, 34, 121]⟩, .int .i64 0, .int .i64 0, .int .i64 0, .int .i64 10])).run Tryz.prog w = .ok true w := by kernel_rfl
theorem eqT2 (w : World) : (Op.equalIn 10000 40 (.agg #[.int .i64 8, .string ⟨#[]⟩, .int .i64 0, .int .i64 0, .int .i64 0, .int .i64 21]) (.agg #[.int .i64 8, .string ⟨#[]⟩, .int .i64 0, .int .i64 0, .int .i64 0, .int .i64 21])).run Tryz.prog w = .ok true w := by kernel_rfl
theorem eqB0 (w : World) : (binOp .eql 40 (.agg #[.int .i64 1, .string ⟨#[108, 101, 116]⟩, .int .i64 0, .int .i64 0, .int .i64 0, .int .i64 0]) (.agg #[.int .i64 1, .string ⟨#[108, 101, 116]⟩, .int .i64 0, .int .i64 0, .int .i64 0, .int .i64 0])).run Tryz.prog w = .ok (.bool true) w := by kernel_rfl
theorem eqB1 (w : World) : (binOp .eql 40 (.agg #[.int .i64 6, .string ⟨#[120, 34, 121]⟩, .int .i64 0, .int .i64 0, .int .i64 0, .int .i64 10]) (.agg #[.int .i64 6, .string ⟨#[120, 34, 121]⟩, .int .i64 0, .int .i64 0, .int .i64 0, .int .i64 10])).run Tryz.prog w = .ok (.bool true) w := by kernel_rfl
theorem eqB2 (w : World) : (binOp .eql 40 (.agg #[.int .i64 8, .string ⟨#[]⟩, .int .i64 0, .int .i64 0, .int .i64 0, .int .i64 21]) (.agg #[.int .i64 8, .string ⟨#[]⟩, .int .i64 0, .int .i64 0, .int .i64 0, .int .i64 21])).run Tryz.prog w = .ok (.bool true) w := by kernel_rfl
theorem tkA_cells : tkC tkA = [.int .i64 1, .string ⟨#[108, 101, 116]⟩, .int .i64 0, .int .i64 0, .int .i64 0, .int .i64 0, .int .i64 2, .string ⟨#[97, 45, 49]⟩, .int .i64 0, .int .i64 0, .int .i64 0, .int .i64 4, .int .i64 7, .string ⟨#[61]⟩, .int .i64 0, .int .i64 0, .int .i64 0, .int .i64 8, .int .i64 6, .string ⟨#[120, 34, 121]⟩, .int .i64 0, .int .i64 0, .int .i64 0, .int .i64 10, .int .i64 7, .string ⟨#[59]⟩, .int .i64 0, .int .i64 0, .int .i64 0, .int .i64 16, .int .i64 8, .string ⟨#[]⟩, .int .i64 0, .int .i64 0, .int .i64 0, .int .i64 21] := by kernel_rfl
end Go.Proofs.YtkpdbbbeagnjpaaGreatDoor
