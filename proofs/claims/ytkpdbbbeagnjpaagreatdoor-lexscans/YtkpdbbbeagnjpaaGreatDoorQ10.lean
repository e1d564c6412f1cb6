/-
  Scan by its contract, of a source that is gone through well (okF says how: bytes below 128, no run of digits). Condition: that.
-/
import Derived.Test.YtkpdbbbeagnjpaaGreatDoorQ09
namespace Go.Proofs.YtkpdbbbeagnjpaaGreatDoor
open Go.RowKit Go.Lib

theorem kept_iter (w : World) (k : Nat) (s : ByteArray) (q : Nat) : Kept (fun j => j = k) w (w.iterAt k s q) := ⟨rfl, rfl, rfl, by rw [Lib.iterAt_size]; exact Nat.le_refl _, fun j _ h => Lib.iterAt_other w k j s q h⟩
theorem ScA.iter {w : World} {base p k : Nat} {s : By} {x : SS} (h : ScA w base p s x) {t : ByteArray} {pos : Nat} (hk : w.heap[k]? = some (.stringIter t pos)) (q : Nat) : ScA (w.iterAt k t q) base p s x := by
  obtain ⟨tv, ad, bv, h⟩ := h
  have hne : ∀ j c e f, w.heap[j]? = some (.cells c e f) → ¬ j = k := fun j c e f hj e' => by rw [e', hk] at hj; cases hj
  refine ⟨tv, ad, bv, (Lib.iterAt_other w k p t q (hne p _ _ _ h.blk)).trans h.blk, h.ge, h.ad', own_kept h.tok (kept_iter w k t q) (fun j hj => ?_), own_kept h.row (kept_iter w k t q) (fun j hj => ?_), h.nil⟩
  · obtain ⟨c, hc⟩ := own_ty h.tok j hj
    exact hne _ _ _ _ hc
  · obtain ⟨c, hc⟩ := own_ty h.row j hj
    exact hne _ _ _ _ hc
/-- All runes from a place on. -/
def foldP (s : By) : Nat → SS → By → Int × SS
  | _, x, [] => (0, x)
  | i, x, b :: t => if (stepP s x i (bI b)).1 = 0 then foldP s (i + 1) (stepP s x i (bI b)).2 t else stepP s x i (bI b)
/-- Does it go well from a place on? -/
def okX (i : Nat) (x : SS) : Bool := decide (x.st ≠ 4) && decide (0 ≤ x.fr) && decide (x.fr ≤ i) && decide (x.tk.length ≤ 8000) && decide (x.mn.length ≤ 8000)
def okF (s : By) : Nat → SS → By → Bool
  | i, x, [] => okX i x
  | i, x, b :: t => okX i x && (decide (b.toNat < 128) && (if (stepP s x i (bI b)).1 = 0 then okF s (i + 1) (stepP s x i (bI b)).2 t else true))
def x0 : SS := ⟨[], 0, 0, []⟩
/-- What Scan tells: tokens, or what is wrong and where. -/
def scanP (s : By) : Except (Int × Int) (List Tk) :=
  if 8000 < s.length then .error (84, 8000)
  else if (foldP s 0 x0 s).1 ≠ 0 then .error ((foldP s 0 x0 s).1, (foldP s 0 x0 s).2.fr)
  else if (endP s (foldP s 0 x0 s).2).1 ≠ 0 then .error ((endP s (foldP s 0 x0 s).2).1, (endP s (foldP s 0 x0 s).2).2.fr)
  else .ok (endP s (foldP s 0 x0 s).2).2.tk
/-- .. as it lies in memory. -/
def ScnP (s : By) (base : Nat) (e : Ending) (w : World) : Prop :=
  match scanP s with
  | .error (c, q) => e = .returned (.tuple #[.slice none 0 0, .int .i64 c, .int .i64 q])
  | .ok L => ∃ tv, e = .returned (.tuple #[tv, .int .i64 0, .int .i64 0]) ∧ w.ownsRow base 40 6 tv L.length (tkC L)
theorem okX_out {i : Nat} {x : SS} (h : okX i x = true) : x.st ≠ 4 ∧ 0 ≤ x.fr ∧ x.fr ≤ i ∧ x.tk.length ≤ 8000 ∧ x.mn.length ≤ 8000 := by
  unfold okX at h
  simp only [Bool.and_eq_true, decide_eq_true_eq] at h
  obtain ⟨⟨⟨⟨h1, h2⟩, h3⟩, h4⟩, h5⟩ := h
  exact ⟨h1, h2, h3, h4, h5⟩
theorem okF_head {s : By} {i : Nat} {x : SS} {t : By} (h : okF s i x t = true) : x.st ≠ 4 ∧ 0 ≤ x.fr ∧ x.fr ≤ i ∧ x.tk.length ≤ 8000 ∧ x.mn.length ≤ 8000 := by
  cases t with
  | nil => exact okX_out h
  | cons b t =>
    rw [okF, Bool.and_eq_true] at h
    exact okX_out h.1
theorem okF_cons {s : By} {i : Nat} {x : SS} {b : UInt8} {t : By} (h : okF s i x (b :: t) = true) : b.toNat < 128 ∧ ((stepP s x i (bI b)).1 = 0 → okF s (i + 1) (stepP s x i (bI b)).2 t = true) := by
  rw [okF, Bool.and_eq_true, Bool.and_eq_true, decide_eq_true_eq] at h
  obtain ⟨_, h6, h7⟩ := h
  exact ⟨h6, fun e => by rw [if_pos e] at h7; exact h7⟩
theorem scan_fold {s : By} (hs : s.length ≤ 8000) {y : Int × SS} (h : foldP s 0 x0 s = y) : scanP s = if y.1 ≠ 0 then .error (y.1, y.2.fr) else if (endP s y.2).1 ≠ 0 then .error ((endP s y.2).1, (endP s y.2).2.fr) else .ok (endP s y.2).2.tk := by
  unfold scanP
  rw [if_neg (by omega), h]
set_option maxHeartbeats 4000000 in
set_option maxRecDepth 100000 in
theorem scan_ok (s : By) (w : World) (hs : s.length ≤ 8000) (hok : okF s 0 x0 s = true) :
    Calls Tryz.prog 8 #[.string ⟨s.toArray⟩] w fun e w' => ScnP s w.heap.size e w' ∧ Below w.heap.size w w' := by
  have hsz := bs_size s
  have hl' : ¬ (8000 : Int) < (s.length : Int) := by omega
  obtain ⟨w2, hw2⟩ : ∃ w2, w2 = w.alloc (.cells #[.string ⟨s.toArray⟩, .slice none 0 0, .int .i64 0, .int .i64 0, .pointer none, .slice none 0 0] 47) := ⟨_, rfl⟩
  have X2 : Below w.heap.size w w2 := by rw [hw2]; exact al (Below.refl _ _) _
  have S2 : Hid (Sc w2 w.heap.size w.heap.size s x0 (.slice none 0 0) (.pointer none) (.slice none 0 0)) := ⟨by rw [hw2]; exact heap_alloc_new w _, Nat.le_refl _, .inl rfl, World.ownsRow_nil _ _ _ _, World.ownsRow_nil _ _ _ _, fun _ => rfl⟩
  have hs2 : w2.heap.size = w.heap.size + 1 := by rw [hw2]; simp
  have HX2 := hide X2
  have HOK := hide hok
  clear X2 hok
  go_enter Tryz.func8, Tryz.ntmps8
  go_upto_region 4 with fail
  rw [← hw2]
  clear hw2
  go_wp2
  obtain ⟨P, hP⟩ : ∃ P, P = w.heap.size := ⟨_, rfl⟩
  have HPW := hide hP
  rw [← hP]
  rw [← hP] at S2 HX2
  have HS2 : Hid (w2.heap.size = P + 1) := by unfold Hid; rw [hs2, hP]
  clear hP hs2
  go_loopw [] (fun wr => ∃ (pos : Nat) (x : SS), wr.heap[P + 1]? = some (.stringIter ⟨s.toArray⟩ pos) ∧ Hid (ScA wr P P s x) ∧ Hid (Below P w wr) ∧ pos ≤ s.length ∧ Hid (okF s pos x (s.drop pos) = true) ∧ Hid (foldP s pos x (s.drop pos) = foldP s 0 x0 s)) (fun wr => s.length - wr.iterPos (P + 1))
  case atStart =>
    refine ⟨0, x0, ?_, ⟨_, _, _, S2.out.below ((Below.refl _ w2).alloc (Nat.le_refl _) _)⟩, ?_, by omega, HOK.out, rfl⟩
    · have := World.iter_heap w2 ⟨s.toArray⟩ 0
      rw [HS2.out] at this
      exact this
    · have := (Below.refl w2.heap.size w2).alloc (Nat.le_refl _) (.stringIter ⟨s.toArray⟩ 0)
      have h2 := bt HX2.out this (by rw [HPW.out]; exact Nat.le_refl _)
      exact h2
  case round =>
    obtain ⟨pos, x, hit, HA, HB, hp1, HO, HF⟩ := hrel
    obtain ⟨o4, of0, of1, otk, omn⟩ := okF_head HO.out
    have hPs : P ≤ wr.heap.size := by have := HB.out.size; have := HPW.out; omega
    by_cases hp : pos < s.length
    · have hd : s.drop pos = s[pos] :: s.drop (pos + 1) := List.drop_eq_getElem_cons hp
      have hO := HO.out
      rw [hd] at hO
      obtain ⟨hb, hO2⟩ := okF_cons hO
      have hF := HF.out
      rw [hd, foldP] at hF
      have hnx : ∀ ty, (Instr.next (.pointer (some ⟨P + 1, 0, none⟩)) true ty).run Tryz.prog wr = _ := fun ty => Lib.run_next_ascii_at wr (P + 1) ⟨s.toArray⟩ pos ty hit (by rw [hsz]; exact hp) (by rw [bs_get]; exact hb)
      rw [bs_get] at hnx
      have hit2 := Lib.iterAt_heap wr (P + 1) ⟨s.toArray⟩ pos (pos + 1) hit
      have hA2 := HA.out.iter hit (pos + 1)
      have hB2 := Lib.below_iterAt HB.out (k := P + 1) (by omega) ⟨s.toArray⟩ (pos + 1)
      have hsz2 : P ≤ (wr.iterAt (P + 1) ⟨s.toArray⟩ (pos + 1)).heap.size := by rw [Lib.iterAt_size]; exact hPs
      have HST := hide (step_any hA2 pos (bI s[pos]) (by unfold bI; omega) (by unfold bI; omega) o4 of0 of1 (by omega) (by omega) hsz2 (by omega) (by omega))
      have HIT := hide hit
      have HI2 := hide hit2
      have HB2 := hide hB2
      have HZ2 := hide hsz2
      have HFF := hide hF
      have HOO := hide hO2
      clear hd hO hb hO2 hF hA2 hB2 hit hit2 hsz2 HO HF HA
      unfold bI at HST HFF HOO
      generalize stepP s x pos (s[pos].toNat : Int) = y at *
      generalize s[pos].toNat = r at *
      obtain ⟨y1, y2⟩ := y
      simp only at HST HFF HOO
      by_cases hy : y1 = 0
      · subst hy
        have HF2 := hide (HFF.out)
        rw [if_pos rfl] at HF2
        have HO2 := hide (HOO.out rfl)
        clear HFF HOO
        go_wp2_with (go_at_call 19; refine HST.out.mono ?_; rintro e w3 ⟨rfl, hA, hK, hS⟩; have HA3 := hide hA; have HK3 := hide hK; clear hA hK hS)
        have HI3 := hide (HK3.out.block' HI2.out (by omega) (fun c f e' => by cases e') (fun c f e' => by cases e'))
        have HB3 := hide (HB2.out.trans (HK3.out.to_below (Nat.le_refl _) HZ2.out))
        go_roundw
        case rel => exact ⟨pos + 1, y2, HI3.out, HA3, HB3, hp, HO2, HF2⟩
        case measure =>
          simp only [World.iterPos, HI3.out, HIT.out]
          omega
      · have hy1 : (y1 == 0) = false := by simp [hy]
        have HF2 := hide (HFF.out)
        rw [if_neg hy] at HF2
        have HSC : Hid (scanP s = .error (y1, y2.fr)) := by unfold Hid; rw [scan_fold hs HF2.out.symm, if_pos hy]
        clear HFF HOO
        go_wp2_with (go_at_call 19; refine HST.out.mono ?_; rintro e w3 ⟨rfl, hA, hK, hS⟩; obtain ⟨tv, ad, bv, hA⟩ := hA; obtain ⟨-, -, c3, -, -⟩ := hA.cells; have HK3 := hide hK; clear hA hK hS)
        have HB3 := hide (HB2.out.trans (HK3.out.to_below (Nat.le_refl _) HZ2.out))
        go_region
        all_goals
          go_wp2
          refine bodyPost_ret (by simp [results, Tryz.results8, go_sem]; rfl) rfl ?_
          refine ⟨?_, by have := HPW.out; rw [← this]; exact Below.drew HB3.out⟩
          unfold ScnP
          rw [HSC.out]
    · obtain rfl : pos = s.length := by omega
      have hnx : ∀ ty, (Instr.next (.pointer (some ⟨P + 1, 0, none⟩)) true ty).run Tryz.prog wr = _ := fun ty => Lib.run_next_end_at wr (P + 1) ⟨s.toArray⟩ s.length ty hit (by rw [hsz]; exact hp)
      have hF := HF.out
      rw [List.drop_length, foldP] at hF
      have HEN := hide (end_any HA.out o4 of0 of1 (by omega) hPs (by omega))
      have HSF := hide (scan_fold hs hF.symm)
      clear hF HF HO
      simp only at HSF
      generalize endP s x = y at *
      obtain ⟨y1, y2⟩ := y
      simp only at HEN HSF
      by_cases hy : y1 = 0
      · subst hy
        have HSC : Hid (scanP s = .ok y2.tk) := by unfold Hid; rw [HSF.out]; simp
        clear HSF
        go_wp2_with (go_at_call 20; refine HEN.out.mono ?_; rintro e w3 ⟨rfl, hA, hK, hS⟩; obtain ⟨tv, ad, bv, hA⟩ := hA; have c1 := cell_of_row _ _ 1 _ _ _ hA.blk; have HA3 := hide hA; have HK3 := hide hK; clear hA hK hS)
        have HB3 := hide (HB.out.trans (HK3.out.to_below (Nat.le_refl _) hPs))
        refine bodyPost_ret (by simp [results, Tryz.results8, go_sem]; rfl) rfl ?_
        refine ⟨?_, by have := HPW.out; rw [← this]; exact HB3.out⟩
        unfold ScnP
        rw [HSC.out]
        exact ⟨tv, rfl, by have := HPW.out; rw [← this]; exact HA3.out.tok⟩
      · have hy1 : (y1 == 0) = false := by simp [hy]
        have HSC : Hid (scanP s = .error (y1, y2.fr)) := by unfold Hid; rw [HSF.out]; simp [hy]
        clear HSF
        go_wp2_with (go_at_call 20; refine HEN.out.mono ?_; rintro e w3 ⟨rfl, hA, hK, hS⟩; obtain ⟨tv, ad, bv, hA⟩ := hA; obtain ⟨-, -, c3, -, -⟩ := hA.cells; have HK3 := hide hK; clear hA hK hS)
        have HB3 := hide (HB.out.trans (HK3.out.to_below (Nat.le_refl _) hPs))
        go_region
        all_goals
          go_wp2
          refine bodyPost_ret (by simp [results, Tryz.results8, go_sem]; rfl) rfl ?_
          refine ⟨?_, by have := HPW.out; rw [← this]; exact Below.drew HB3.out⟩
          unfold ScnP
          rw [HSC.out]
end Go.Proofs.YtkpdbbbeagnjpaaGreatDoor
