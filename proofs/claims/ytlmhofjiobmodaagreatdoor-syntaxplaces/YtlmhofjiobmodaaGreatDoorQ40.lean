/-
  Scan by its contract, of any source. Condition: the library's ErrRange reads as its text lays it.
-/
import Derived.Test.YtlmhofjiobmodaaGreatDoorQ07
import Derived.Test.YtlmhofjiobmodaaGreatDoorQ39
namespace Go.Proofs.YtlmhofjiobmodaaGreatDoor
open Go.RowKit Go.Lib

/-- What Scan tells: tokens, or what is wrong and where. -/
def scanQ (s : By) : Except (Int × Int) (List Tk) :=
  if 8000 < s.length then .error (84, 8000)
  else if (foldQ s 0 x0 s).1 ≠ 0 then .error ((foldQ s 0 x0 s).1, (foldQ s 0 x0 s).2.fr)
  else if (endQ s (foldQ s 0 x0 s).2).1 ≠ 0 then .error ((endQ s (foldQ s 0 x0 s).2).1, (endQ s (foldQ s 0 x0 s).2).2.fr)
  else .ok (endQ s (foldQ s 0 x0 s).2).2.tk
/-- .. as it lies in memory. -/
def ScnQ (s : By) (base : Nat) (e : Ending) (w : World) : Prop :=
  match scanQ s with
  | .error (c, q) => e = .returned (.tuple #[.slice none 0 0, .int .i64 c, .int .i64 q])
  | .ok L => ∃ tv, e = .returned (.tuple #[tv, .int .i64 0, .int .i64 0]) ∧ w.ownsRow base 49 6 tv L.length (tkC L)
theorem scan_foldQ {s : By} (hs : s.length ≤ 8000) {y : Int × SS} (h : foldQ s 0 x0 s = y) : scanQ s = if y.1 ≠ 0 then .error (y.1, y.2.fr) else if (endQ s y.2).1 ≠ 0 then .error ((endQ s y.2).1, (endQ s y.2).2.fr) else .ok (endQ s y.2).2.tk := by
  unfold scanQ
  rw [if_neg (by omega), h]
/-- One rune of the range over the source is its bytes, one by one. -/
theorem scan_round {s : By} {pos : Nat} (hp : pos < s.length) {x : SS} (ho : OkS s pos x) {F : Int × SS} (hF : foldQ s pos x (s.drop pos) = F) :
    0 < (Utf8.decode ⟨s.toArray⟩ pos).2 ∧ ((stepQ s x pos ((Utf8.decode ⟨s.toArray⟩ pos).1 : Nat)).1 = 0 → OkS s (pos + (Utf8.decode ⟨s.toArray⟩ pos).2) (stepQ s x pos ((Utf8.decode ⟨s.toArray⟩ pos).1 : Nat)).2 ∧ foldQ s (pos + (Utf8.decode ⟨s.toArray⟩ pos).2) (stepQ s x pos ((Utf8.decode ⟨s.toArray⟩ pos).1 : Nat)).2 (s.drop (pos + (Utf8.decode ⟨s.toArray⟩ pos).2)) = F ∧ pos + (Utf8.decode ⟨s.toArray⟩ pos).2 ≤ s.length) ∧ ((stepQ s x pos ((Utf8.decode ⟨s.toArray⟩ pos).1 : Nat)).1 ≠ 0 → F = stepQ s x pos ((Utf8.decode ⟨s.toArray⟩ pos).1 : Nat)) := by
  have hsz := bs_size s
  have hd : s.drop pos = s[pos] :: s.drop (pos + 1) := List.drop_eq_getElem_cons hp
  by_cases hb : s[pos].toNat < 128
  · rw [rune_low s hp hb]
    rw [hd, foldQ] at hF
    refine ⟨Nat.one_pos, fun h0 => ?_, fun h0 => ?_⟩
    · have h0' : (stepQ s x pos (bI s[pos])).1 = 0 := h0
      rw [if_pos h0'] at hF
      exact ⟨okS_step hp ho h0', hF, hp⟩
    · have h0' : ¬ (stepQ s x pos (bI s[pos])).1 = 0 := h0
      rw [if_neg h0'] at hF
      exact hF.symm
  · obtain ⟨hr, hw⟩ := rune_high s hp hb
    have hget : ∀ j (hj : j < s.length), ((⟨s.toArray⟩ : ByteArray).get! j) = s[j] := fun j hj => by
      have hj' : j < (⟨s.toArray⟩ : ByteArray).size := by rw [hsz]; exact hj
      have e1 : (⟨s.toArray⟩ : ByteArray).get! j = (⟨s.toArray⟩ : ByteArray)[j]'hj' := by
        show s.toArray[j]! = _
        rw [getElem!_pos s.toArray j (by simpa using hj)]
        rfl
      rw [e1, bs_get]
    obtain ⟨hw1, hw2⟩ := dec_wide ⟨s.toArray⟩ pos (by rw [hsz]; exact hp) (by rw [hget pos hp]; omega)
    rw [hsz] at hw1
    generalize (Utf8.decode ⟨s.toArray⟩ pos).2 = wd at *
    generalize (Utf8.decode ⟨s.toArray⟩ pos).1 = r at *
    have hr' : (128 : Int) ≤ (r : Int) := by omega
    have hall : ∀ j (hj : j < s.length), pos ≤ j → j < pos + wd → 128 ≤ s[j].toNat := fun j hj h1 h2 => by
      have := hw2 j h1 h2
      rw [hget j hj] at this
      exact this
    by_cases h1 : x.st = 1
    · rw [step_high s x pos hr', if_pos h1]
      refine ⟨hw, fun _ => ⟨ho.next (by omega) (by omega), ?_, hw1⟩, fun h => absurd rfl h⟩
      rw [← fold_high s x h1 wd pos hw1 hall]
      exact hF
    · rw [step_high s x pos hr', if_neg h1]
      refine ⟨hw, fun h => absurd h (step_128 s x pos h1), fun h => ?_⟩
      rw [hd, foldQ, step_high s x pos (r := bI s[pos]) (by unfold bI; omega), if_neg h1, if_neg h] at hF
      exact hF.symm
set_option maxHeartbeats 4000000 in
set_option maxRecDepth 100000 in
theorem scan_le (s : By) (w : World) (hs : s.length ≤ 8000) (hev : ErrV w.heap.size w) :
    Calls Tryz.prog 16 #[.string ⟨s.toArray⟩] w fun e w' => ScnQ s w.heap.size e w' ∧ Below w.heap.size w w' := by
  have hsz := bs_size s
  have hl' : ¬ (8000 : Int) < (s.length : Int) := by omega
  obtain ⟨w2, hw2⟩ : ∃ w2, w2 = w.alloc (.cells #[.string ⟨s.toArray⟩, .slice none 0 0, .int .i64 0, .int .i64 0, .pointer none, .slice none 0 0] 89) := ⟨_, rfl⟩
  have X2 : Below w.heap.size w w2 := by rw [hw2]; exact al (Below.refl _ _) _
  have S2 : Hid (Sc w2 w.heap.size w.heap.size s x0 (.slice none 0 0) (.pointer none) (.slice none 0 0)) := ⟨by rw [hw2]; exact heap_alloc_new w _, Nat.le_refl _, .inl rfl, World.ownsRow_nil _ _ _ _, World.ownsRow_nil _ _ _ _, fun _ => rfl⟩
  have hs2 : w2.heap.size = w.heap.size + 1 := by rw [hw2]; simp
  have HX2 := hide X2
  have HEV := hide hev
  clear X2 hev
  go_enter Tryz.func16, Tryz.ntmps16
  go_upto_region 4 with fail
  rw [← hw2]
  clear hw2
  go_wp2
  obtain ⟨P, hP⟩ : ∃ P, P = w.heap.size := ⟨_, rfl⟩
  have HPW := hide hP
  rw [← hP]
  rw [← hP] at S2 HX2 HEV
  have HS2 : Hid (w2.heap.size = P + 1) := by unfold Hid; rw [hs2, hP]
  clear hP hs2
  go_loopw [] (fun wr => ∃ (pos : Nat) (x : SS), wr.heap[P + 1]? = some (.stringIter ⟨s.toArray⟩ pos) ∧ Hid (ScA wr P P s x) ∧ Hid (Below P w wr) ∧ pos ≤ s.length ∧ Hid (OkS s pos x) ∧ Hid (foldQ s pos x (s.drop pos) = foldQ s 0 x0 s)) (fun wr => s.length - wr.iterPos (P + 1))
  case atStart =>
    refine ⟨0, x0, ?_, ⟨_, _, _, S2.out.below ((Below.refl _ w2).alloc (Nat.le_refl _) _)⟩, ?_, by omega, ⟨by decide, by decide, by decide, by decide, fun e => by cases e⟩, rfl⟩
    · have := World.iter_heap w2 ⟨s.toArray⟩ 0
      rw [HS2.out] at this
      exact this
    · have := (Below.refl w2.heap.size w2).alloc (Nat.le_refl _) (.stringIter ⟨s.toArray⟩ 0)
      have h2 := bt HX2.out this (by rw [HPW.out]; exact Nat.le_refl _)
      exact h2
  case round =>
    obtain ⟨pos, x, hit, HA, HB, hp1, HO, HF⟩ := hrel
    have hPs : P ≤ wr.heap.size := by have := HB.out.size; have := HPW.out; omega
    by_cases hp : pos < s.length
    · have hnx : ∀ ty, (Instr.next (.pointer (some ⟨P + 1, 0, none⟩)) true ty).run Tryz.prog wr = _ := fun ty => Lib.run_next_any_at wr (P + 1) ⟨s.toArray⟩ pos ty hit (by rw [hsz]; exact hp)
      obtain ⟨hwd, hgood, hbad⟩ := scan_round hp HO.out HF.out
      generalize (Utf8.decode ⟨s.toArray⟩ pos).2 = wd at *
      generalize (Utf8.decode ⟨s.toArray⟩ pos).1 = r at *
      have hit2 := Lib.iterAt_heap wr (P + 1) ⟨s.toArray⟩ pos (pos + wd) hit
      have hA2 := HA.out.iter hit (pos + wd)
      have hB2 := Lib.below_iterAt HB.out (k := P + 1) (by omega) ⟨s.toArray⟩ (pos + wd)
      have hsz2 : P ≤ (wr.iterAt (P + 1) ⟨s.toArray⟩ (pos + wd)).heap.size := by rw [Lib.iterAt_size]; exact hPs
      have HST := hide (step_q hA2 pos (r : Int) (by omega) HO.out (by omega) hs (HEV.out.below hB2) hsz2)
      have HIT := hide hit
      have HI2 := hide hit2
      have HB2 := hide hB2
      have HZ2 := hide hsz2
      have HGO := hide hgood
      have HBA := hide hbad
      clear hA2 hB2 hit hit2 hsz2 HO HF HA hgood hbad
      generalize stepQ s x pos (r : Int) = y at *
      obtain ⟨y1, y2⟩ := y
      simp only at HST HGO HBA
      by_cases hy : y1 = 0
      · subst hy
        obtain ⟨g1, g2, g3⟩ := HGO.out rfl
        have HO2 := hide g1
        have HF2 := hide g2
        clear HGO HBA g1 g2
        go_wp2_with (go_at_call 37; refine HST.out.mono ?_; rintro e w3 ⟨rfl, hA, hK, hS⟩; have HA3 := hide hA; have HK3 := hide hK; clear hA hK hS)
        have HI3 := hide (HK3.out.block' HI2.out (by omega) (fun c f e' => by cases e') (fun c f e' => by cases e'))
        have HB3 := hide (HB2.out.trans (HK3.out.to_below (Nat.le_refl _) HZ2.out))
        go_roundw
        case rel => exact ⟨pos + wd, y2, HI3.out, HA3, HB3, g3, HO2, HF2⟩
        case measure =>
          simp only [World.iterPos, HI3.out, HIT.out]
          omega
      · have hy1 : (y1 == 0) = false := by simp [hy]
        have HSC : Hid (scanQ s = .error (y1, y2.fr)) := by unfold Hid; rw [scan_foldQ hs (HBA.out hy), if_pos hy]
        clear HGO HBA
        go_wp2_with (go_at_call 37; refine HST.out.mono ?_; rintro e w3 ⟨rfl, hA, hK, hS⟩; obtain ⟨tv, ad, bv, hA⟩ := hA; obtain ⟨-, -, c3, -, -⟩ := hA.cells; have HK3 := hide hK; clear hA hK hS)
        have HB3 := hide (HB2.out.trans (HK3.out.to_below (Nat.le_refl _) HZ2.out))
        go_region
        all_goals
          go_wp2
          refine bodyPost_ret (by simp [results, Tryz.results16, go_sem]; rfl) rfl ?_
          refine ⟨?_, by have := HPW.out; rw [← this]; exact Below.drew HB3.out⟩
          unfold ScnQ
          rw [HSC.out]
    · obtain rfl : pos = s.length := by omega
      have hnx : ∀ ty, (Instr.next (.pointer (some ⟨P + 1, 0, none⟩)) true ty).run Tryz.prog wr = _ := fun ty => Lib.run_next_end_at wr (P + 1) ⟨s.toArray⟩ s.length ty hit (by rw [hsz]; exact hp)
      have hF := HF.out
      rw [List.drop_length, foldQ] at hF
      have HEN := hide (end_q HA.out HO.out hs (HEV.out.below HB.out) hPs)
      have HSF := hide (scan_foldQ hs hF.symm)
      clear hF HF HO
      simp only at HSF
      generalize endQ s x = y at *
      obtain ⟨y1, y2⟩ := y
      simp only at HEN HSF
      by_cases hy : y1 = 0
      · subst hy
        have HSC : Hid (scanQ s = .ok y2.tk) := by unfold Hid; rw [HSF.out]; simp
        clear HSF
        go_wp2_with (go_at_call 38; refine HEN.out.mono ?_; rintro e w3 ⟨rfl, hA, hK, hS⟩; obtain ⟨tv, ad, bv, hA⟩ := hA; have c1 := cell_of_row _ _ 1 _ _ _ hA.blk; have HA3 := hide hA; have HK3 := hide hK; clear hA hK hS)
        have HB3 := hide (HB.out.trans (HK3.out.to_below (Nat.le_refl _) hPs))
        refine bodyPost_ret (by simp [results, Tryz.results16, go_sem]; rfl) rfl ?_
        refine ⟨?_, by have := HPW.out; rw [← this]; exact HB3.out⟩
        unfold ScnQ
        rw [HSC.out]
        exact ⟨tv, rfl, by have := HPW.out; rw [← this]; exact HA3.out.tok⟩
      · have hy1 : (y1 == 0) = false := by simp [hy]
        have HSC : Hid (scanQ s = .error (y1, y2.fr)) := by unfold Hid; rw [HSF.out]; simp [hy]
        clear HSF
        go_wp2_with (go_at_call 38; refine HEN.out.mono ?_; rintro e w3 ⟨rfl, hA, hK, hS⟩; obtain ⟨tv, ad, bv, hA⟩ := hA; obtain ⟨-, -, c3, -, -⟩ := hA.cells; have HK3 := hide hK; clear hA hK hS)
        have HB3 := hide (HB.out.trans (HK3.out.to_below (Nat.le_refl _) hPs))
        go_region
        all_goals
          go_wp2
          refine bodyPost_ret (by simp [results, Tryz.results16, go_sem]; rfl) rfl ?_
          refine ⟨?_, by have := HPW.out; rw [← this]; exact Below.drew HB3.out⟩
          unfold ScnQ
          rw [HSC.out]
end Go.Proofs.YtlmhofjiobmodaaGreatDoor
