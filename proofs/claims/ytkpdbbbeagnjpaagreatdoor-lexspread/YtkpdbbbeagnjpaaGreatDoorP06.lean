/-
  IsName by its contract. Condition: the text is no longer than a process can hold.
-/
import Derived.Test.YtkpdbbbeagnjpaaGreatDoorP01
import Derived.Lib.OthersKept
import Derived.Laws.RangeAny
namespace Go.Proofs.YtkpdbbbeagnjpaaGreatDoor
open Go.RowKit Go.Lib

abbrev By := List UInt8
def bI (b : UInt8) : Int := (b.toNat : Int)
/-- Do all bytes go on a run of a kind? -/
def allGo (k : Int) (s : By) : Bool := s.all fun b => goB k (bI b)
def fsB : By → Bool
  | [] => false
  | b :: _ => smB (bI b)
/-- Is it a name? -/
def nmB (s : By) : Bool := decide (s.length ≤ 32) && !wdB s && fsB s && allGo 2 s
theorem bs_size (s : By) : (⟨s.toArray⟩ : ByteArray).size = s.length := by simp [ByteArray.size]
theorem bs_get (s : By) (i : Nat) (h : i < (⟨s.toArray⟩ : ByteArray).size) : (⟨s.toArray⟩ : ByteArray)[i]'h = s[i]'(by rw [← bs_size]; exact h) := by
  show s.toArray[i]'_ = _
  simp
/-- The rune at a place: a byte below 128 by itself, else one above. -/
theorem rune_low (s : By) {i : Nat} (h : i < s.length) (hb : s[i].toNat < 128) : Utf8.decode ⟨s.toArray⟩ i = (s[i].toNat, 1) := by
  have h' : i < (⟨s.toArray⟩ : ByteArray).size := by rw [bs_size]; exact h
  rw [decode_ascii _ i h' (by rw [bs_get]; exact hb), bs_get]
theorem rune_high (s : By) {i : Nat} (h : i < s.length) (hb : ¬ s[i].toNat < 128) : 128 ≤ (Utf8.decode ⟨s.toArray⟩ i).1 ∧ 1 ≤ (Utf8.decode ⟨s.toArray⟩ i).2 := by
  have h' : i < (⟨s.toArray⟩ : ByteArray).size := by rw [bs_size]; exact h
  exact decode_high _ i h' (by rw [bs_get]; omega)
theorem go_high {k r : Int} (h : 128 ≤ r) : goB k r = false := by
  unfold goB smB dgB grB
  have e1 : decide (r ≤ 122) = false := by simp; omega
  have e2 : decide (r ≤ 57) = false := by simp; omega
  have e3 : decide (r ≤ 90) = false := by simp; omega
  have e4 : decide (r = 95) = false := by simp; omega
  have e5 : decide (r = 45) = false := by simp; omega
  have e6 : decide (r = 46) = false := by simp; omega
  have e7 : decide (r = 47) = false := by simp; omega
  rw [e1, e2, e3, e4, e5, e6, e7]
  simp
theorem sm_go {r : Int} (h : smB r = true) : goB 2 r = true := by unfold goB; rw [if_pos rfl, h]; simp
theorem allGo_false {k : Int} {s : By} {i : Nat} (h : i < s.length) (hb : goB k (bI s[i]) = false) : allGo k s = false := by
  unfold allGo
  rw [List.all_eq_false]
  exact ⟨s[i], List.getElem_mem h, by simp [hb]⟩
theorem allGo_true {k : Int} {s : By} (h : ∀ i (hi : i < s.length), goB k (bI s[i]) = true) : allGo k s = true := by
  unfold allGo
  rw [List.all_eq_true]
  intro b hb
  obtain ⟨i, hi, rfl⟩ := List.getElem_of_mem hb
  exact h i hi
set_option maxRecDepth 100000 in
set_option maxHeartbeats 4000000 in
theorem isName_any (s : By) (w : World) (hs : s.length ≤ 140737488351232) : Calls Tryz.prog 16 #[.string ⟨s.toArray⟩] w fun e w' => e = .returned (.bool (nmB s)) ∧ Below w.heap.size w w' := by
  have HW := hide (fun W => isWord_any s W)
  have hsz := bs_size s
  by_cases hl : 32 < s.length
  · have hl' : (32 : Int) < (s.length : Int) := by omega
    have key : Hid (nmB s = false) := by
      unfold Hid nmB
      have : decide (s.length ≤ 32) = false := by simp; omega
      rw [this]; simp
    go_enter Tryz.func16, Tryz.ntmps16
    go_wp2
    go_ret
    exact ⟨by rw [key.out]; rfl, Below.refl _ _⟩
  · have hl' : ¬ (32 : Int) < (s.length : Int) := by omega
    cases hb : wdB s with
    | true =>
      have key : Hid (nmB s = false) := by unfold Hid nmB; rw [hb]; simp
      rw [hb] at HW
      clear hb
      go_enter Tryz.func16, Tryz.ntmps16
      go_wp2_with (go_at_call 14; refine (HW.out _).mono ?_; rintro e wz ⟨rfl, hwz⟩; have hwz := hwz.symm; subst hwz)
      go_ret
      exact ⟨by rw [key.out]; rfl, Below.refl _ _⟩
    | false =>
      have key : Hid (nmB s = (fsB s && allGo 2 s)) := by
        unfold Hid nmB
        have : decide (s.length ≤ 32) = true := by simp; omega
        rw [this, hb]; simp
      rw [hb] at HW
      clear hb
      go_enter Tryz.func16, Tryz.ntmps16
      go_wp2_with (go_at_call 14; refine (HW.out _).mono ?_; rintro e wz ⟨rfl, hwz⟩; have hwz := hwz.symm; subst hwz)
      go_loopw [] (fun wr => ∃ pos : Nat, wr.heap[w.heap.size]? = some (.stringIter ⟨s.toArray⟩ pos) ∧ Below w.heap.size w wr ∧ pos ≤ s.length ∧ Hid (∀ i (hi : i < s.length), i < pos → goB 2 (bI s[i]) = true) ∧ Hid (0 < pos → fsB s = true)) (fun wr => s.length - wr.iterPos w.heap.size)
      case atStart =>
        refine ⟨0, ?_, (Below.refl _ w).alloc (Nat.le_refl _) _, by omega, fun i _ h => by omega, fun h => by omega⟩
        have := World.iter_heap w ⟨s.toArray⟩ 0
        simpa using this
      case round =>
        obtain ⟨pos, hit, hbw, hp1, HG, HF⟩ := hrel
        by_cases hp : pos < s.length
        · have hp' : pos < (⟨s.toArray⟩ : ByteArray).size := by rw [hsz]; exact hp
          have hit2 := fun q => Lib.iterAt_heap wr w.heap.size ⟨s.toArray⟩ pos q hit
          have hbw2 := fun q => Lib.below_iterAt hbw (k := w.heap.size) (Nat.le_refl _) ⟨s.toArray⟩ q
          by_cases ha : s[pos].toNat < 128
          · have hnx : ∀ ty, (Instr.next (.pointer (some ⟨w.heap.size, 0, none⟩)) true ty).run Tryz.prog wr = _ := fun ty => Lib.run_next_ascii_at wr w.heap.size ⟨s.toArray⟩ pos ty hit hp' (by rw [bs_get]; exact ha)
            rw [bs_get] at hnx
            have HB : Hid (bI s[pos] = (s[pos].toNat : Int)) := rfl
            have H1 := hide (fun W => isSmall_any (s[pos].toNat : Int) W)
            have H2 := hide (fun W => goesOn_any 2 (s[pos].toNat : Int) W)
            have HFS : Hid (pos = 0 → fsB s = smB (s[pos].toNat : Int)) := fun h => by
              subst h
              cases s with
              | nil => simp at hp
              | cons b t => rfl
            have HX2 := hide (hbw2 (pos + 1))
            have HI2 := hide (hit2 (pos + 1))
            have HGT : Hid (goB 2 (s[pos].toNat : Int) = true → ∀ i (hi : i < s.length), i < pos + 1 → goB 2 (bI s[i]) = true) := fun h i hi h2 => by
              by_cases h3 : i < pos
              · exact HG.out i hi h3
              · obtain rfl : i = pos := by omega
                exact h
            have HGF : Hid (goB 2 (s[pos].toNat : Int) = false → allGo 2 s = false) := fun h => allGo_false hp h
            have HSF : Hid (pos = 0 → smB (s[pos].toNat : Int) = false → fsB s = false) := fun h h2 => by rw [HFS.out h, h2]
            have HSG : Hid (smB (s[pos].toNat : Int) = true → goB 2 (s[pos].toNat : Int) = true) := fun h => sm_go h
            generalize s[pos].toNat = r at *
            obtain ⟨b1, e1⟩ : ∃ b, smB (r : Int) = b := ⟨_, rfl⟩
            obtain ⟨b2, e2⟩ : ∃ b, goB 2 (r : Int) = b := ⟨_, rfl⟩
            rw [e1] at H1 HFS HSF HSG
            rw [e2] at H2 HGT HGF HSG
            clear e1 e2 hit2 hbw2 HB HG
            cases b2 with
            | false =>
              have HR : Hid ((fsB s && allGo 2 s) = false) := by unfold Hid; rw [HGF.out rfl, Bool.and_false]
              by_cases h0 : pos = 0
              · subst h0
                cases b1
                all_goals
                  go_wp2_with (first | (go_at_call 28; refine (H1.out _).mono ?_; rintro e wz ⟨rfl, hwz⟩; have hwz := hwz.symm; subst hwz) | (go_at_call 29; refine (H2.out _).mono ?_; rintro e wz ⟨rfl, hwz⟩; have hwz := hwz.symm; subst hwz))
                  go_ret
                  exact ⟨by rw [key.out, HR.out]; rfl, HX2.out⟩
              · have h0' : ¬ (pos : Int) = 0 := by omega
                go_wp2_with (go_at_call 29; refine (H2.out _).mono ?_; rintro e wz ⟨rfl, hwz⟩; have hwz := hwz.symm; subst hwz)
                go_ret
                exact ⟨by rw [key.out, HR.out]; rfl, HX2.out⟩
            | true =>
              have HGN := hide (HGT.out rfl)
              clear HGT HGF HSG
              by_cases h0 : pos = 0
              · subst h0
                have HFN := hide (HFS.out rfl)
                cases b1 with
                | false =>
                  have HR : Hid ((fsB s && allGo 2 s) = false) := by unfold Hid; rw [HSF.out rfl rfl, Bool.false_and]
                  go_wp2_with (go_at_call 28; refine (H1.out _).mono ?_; rintro e wz ⟨rfl, hwz⟩; have hwz := hwz.symm; subst hwz)
                  go_ret
                  exact ⟨by rw [key.out, HR.out]; rfl, HX2.out⟩
                | true =>
                  go_wp2_with (first | (go_at_call 28; refine (H1.out _).mono ?_; rintro e wz ⟨rfl, hwz⟩; have hwz := hwz.symm; subst hwz) | (go_at_call 29; refine (H2.out _).mono ?_; rintro e wz ⟨rfl, hwz⟩; have hwz := hwz.symm; subst hwz))
                  go_roundw
                  case rel => exact ⟨1, HI2.out, HX2.out, hp, HGN.out, fun _ => HFN.out⟩
                  case measure =>
                    simp only [World.iterPos, HI2.out, hit]
                    omega
              · have h0' : ¬ (pos : Int) = 0 := by omega
                go_wp2_with (go_at_call 29; refine (H2.out _).mono ?_; rintro e wz ⟨rfl, hwz⟩; have hwz := hwz.symm; subst hwz)
                go_roundw
                case rel => exact ⟨pos + 1, HI2.out, HX2.out, hp, HGN.out, fun _ => HF.out (by omega)⟩
                case measure =>
                  simp only [World.iterPos, HI2.out, hit]
                  omega
          · have hnx : ∀ ty, (Instr.next (.pointer (some ⟨w.heap.size, 0, none⟩)) true ty).run Tryz.prog wr = _ := fun ty => Lib.run_next_any_at wr w.heap.size ⟨s.toArray⟩ pos ty hit hp'
            obtain ⟨hd1, hd2⟩ := rune_high s hp ha
            have HR : Hid ((fsB s && allGo 2 s) = false) := by unfold Hid; rw [allGo_false hp (go_high (by unfold bI; omega)), Bool.and_false]
            have HX2 := hide (hbw2 (pos + (Utf8.decode ⟨s.toArray⟩ pos).2))
            generalize (Utf8.decode ⟨s.toArray⟩ pos).2 = wd at *
            generalize (Utf8.decode ⟨s.toArray⟩ pos).1 = r at *
            have H1 := hide (fun W => isSmall_any (r : Int) W)
            have H2 := hide (fun W => goesOn_any 2 (r : Int) W)
            rw [go_high (by omega)] at H2
            have hsm : smB (r : Int) = false := by unfold smB; have : decide ((r : Int) ≤ 122) = false := (by simp; omega); rw [this, Bool.and_false]
            rw [hsm] at H1
            clear hit2 hbw2 hsm
            by_cases h0 : pos = 0
            · subst h0
              go_wp2_with (go_at_call 28; refine (H1.out _).mono ?_; rintro e wz ⟨rfl, hwz⟩; have hwz := hwz.symm; subst hwz)
              go_ret
              exact ⟨by rw [key.out, HR.out]; rfl, by simpa using HX2.out⟩
            · have h0' : ¬ (pos : Int) = 0 := by omega
              go_wp2_with (go_at_call 29; refine (H2.out _).mono ?_; rintro e wz ⟨rfl, hwz⟩; have hwz := hwz.symm; subst hwz)
              go_ret
              exact ⟨by rw [key.out, HR.out]; rfl, HX2.out⟩
        · have hnx : ∀ ty, (Instr.next (.pointer (some ⟨w.heap.size, 0, none⟩)) true ty).run Tryz.prog wr = _ := fun ty => Lib.run_next_end_at wr w.heap.size ⟨s.toArray⟩ pos ty hit (by rw [hsz]; exact hp)
          have HX2 := hide hbw
          cases s with
          | nil =>
            have HR : Hid ((fsB [] && allGo 2 []) = false) := rfl
            go_wp2
            go_ret
            exact ⟨by rw [key.out, HR.out]; rfl, HX2.out⟩
          | cons b t =>
            have HR : Hid ((fsB (b :: t) && allGo 2 (b :: t)) = true) := by
              unfold Hid
              rw [HF.out (by simp at hp; omega), allGo_true (fun i hi => HG.out i hi (by omega))]
              rfl
            have hne : ((b :: t) == ([] : By)) = false := rfl
            go_wp2
            go_ret
            exact ⟨by rw [key.out, HR.out]; rfl, HX2.out⟩
end Go.Proofs.YtkpdbbbeagnjpaaGreatDoor
