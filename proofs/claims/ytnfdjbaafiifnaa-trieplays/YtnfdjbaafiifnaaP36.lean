/-
  The document's Make by its contract: the trie that says the rows. Condition: at most 2^32 rows.
-/
import Derived.Test.YtnfdjbaafiifnaaP35
import Derived.Test.YtnfdjbaafiifnaaP29
namespace Go.Proofs.Ytnfdjbaafiifnaa
open Go.RowKit Go.Lib

/-- Rows of a tree in its one form. -/
def RmOk (L : List RZ) : Prop := ∃ t : Tr, L = zr (t.rows 0 0) ∧ t.nf ∧ t.labs Lab ∧ t.dep ≤ 32
theorem rmOk_right {L : List RZ} : RmOk L ↔ ∃ R, L = zr R ∧ RtR none 0 R := by
  rw [right_iff]
  constructor
  · rintro ⟨t, rfl, h1, h2, h3⟩
    exact ⟨t, by have := rdT_rows t 0 0 32 [] h1 h2 h3; rwa [List.append_nil] at this⟩
  · rintro ⟨t, h⟩
    obtain ⟨h1, h2, h3, h4⟩ := rdT_some h
    exact ⟨t, by rw [List.append_nil] at h1; exact h1, h2, h3, h4⟩
/-- What Make tells. -/
def RmC (L : List RZ) (base : Nat) (e : Ending) (w : World) : Prop :=
  (∃ t : Tr, L = zr (t.rows 0 0) ∧ t.nf ∧ t.labs Lab ∧ t.dep ≤ 32 ∧ ∃ b, e = .returned (.tuple #[.pointer (some ⟨b, 0, none⟩), .int .i64 0]) ∧ base ≤ b ∧ DtAt w b t.at) ∨ (¬ RmOk L ∧ e = .returned (.tuple #[.pointer none, .int .i64 40]))
/-- Where the k-th row begins. -/
def adr (t : Tr) (m k : Nat) : Nat := (((t.rows 0 0)[k]?).map (·.1.1)).getD m
theorem adr_zero (t : Tr) (m : Nat) : adr t m 0 = 0 := by
  obtain ⟨k', l, R, h, _⟩ := rows_head t 0 0
  unfold adr
  rw [h]
  rfl
theorem adr_last (t : Tr) (m : Nat) : adr t m (t.rows 0 0).length = m := by
  unfold adr
  rw [List.getElem?_eq_none (Nat.le_refl _)]
  rfl
theorem chR_last : ∀ {R : List Rw} {a b i : Nat} {r : Rw}, ChR a R b → R[i]? = some r → R[i + 1]? = none → r.1.1 + 2 ^ (32 - r.1.2) = b := by
  intro R a b i r h h1 h2
  have hl : i + 1 = R.length := by
    have := (List.getElem?_eq_some_iff.1 h1).1
    have := List.getElem?_eq_none_iff.1 h2
    omega
  have hne : R ≠ [] := by rintro rfl; simp at hl
  have e : R = R.dropLast ++ [R.getLast hne] := (List.dropLast_concat_getLast hne).symm
  have hg : R.getLast hne = r := by
    rw [List.getLast_eq_getElem]
    have := (List.getElem?_eq_some_iff.1 h1).2
    rw [← this]
    congr 1
    omega
  rw [hg] at e
  rw [e] at h
  exact h.end
theorem adr_step {t : Tr} {m : Nat} (hm : m = 4294967296) (hd : t.dep ≤ 32) (k : Nat) (hk : k < (t.rows 0 0).length) : withL (cuts t.at (adr t m k)) (((zr (t.rows 0 0)).getD k ((0, 0), 0)).1.1, ((zr (t.rows 0 0)).getD k ((0, 0), 0)).2) = cuts t.at (adr t m (k + 1)) ∧ adr t m k ≤ m := by
  obtain ⟨r, hr⟩ : ∃ r, (t.rows 0 0)[k]? = some r := ⟨_, List.getElem?_eq_getElem hk⟩
  have hch : ChR 0 (t.rows 0 0) 4294967296 := by have := rows_chain t 0 0 (by omega); simpa using this
  have hmem : r ∈ t.rows 0 0 := List.mem_of_getElem? hr
  obtain ⟨⟨a1, a2, a3⟩, _⟩ := rows_al t 0 0 (by omega) (by simp) (by simp) r hmem
  have hat := rows_at t 0 0 (by omega) (by simp) (by simp) r hmem
  have ea : adr t m k = r.1.1 := by unfold adr; rw [hr]; rfl
  have hz : (zr (t.rows 0 0)).getD k ((0, 0), 0) = (((r.1.1 : Int), (r.1.2 : Int)), r.2) := by
    unfold zr
    rw [List.getD_eq_getElem?_getD, List.getElem?_map, hr]
    rfl
  have hpos : 0 < 2 ^ (32 - r.1.2) := Nat.pow_pos (by decide)
  have eb : adr t m (k + 1) = r.1.1 + 2 ^ (32 - r.1.2) := by
    unfold adr
    cases hs : (t.rows 0 0)[k + 1]? with
    | none => rw [chR_last hch hr hs, ← hm]; rfl
    | some s => exact hch.adj hr hs
  rw [ea, eb, hz]
  refine ⟨?_, by omega⟩
  rw [withL_wiL, cuts_to t.at (l := r.2) (m := r.1.1) (m' := r.1.1 + 2 ^ (32 - r.1.2)) (by omega) (fun n h1 h2 => by
    have := hat n ⟨h1, h2⟩
    rwa [dn_zero n (by omega)] at this)]
set_option maxRecDepth 100000 in
set_option maxHeartbeats 2000000 in
theorem refMakeC_any (ao : Option Addr) (cap : Nat) (L : List RZ) (w : World) (hl : L.length ≤ 4294967296) (hat : RwAt w ao L) :
    Calls Try.prog 33 #[.slice ao L.length cap] w fun e w' => RmC L w.heap.size e w' ∧ Below w.heap.size w w' := by
  have hr := refRightL_any ao cap L w (by omega) hat
  have HR := hide hr
  have HAT := hide hat
  clear hr hat
  go_enter Try.func33, Try.ntmps33
  go_wp2_with (fail)
  refine HR.out.mono ?_
  rintro e w1 ⟨⟨bo, rfl, hbo⟩, x1⟩
  have X1 := hide x1
  cases bo with
  | false =>
    have HF : Hid (∀ w', RmC L w.heap.size (.returned (.tuple #[.pointer none, .int .i64 40])) w') := fun w' => .inr ⟨fun h => (by have := hbo.2 (rmOk_right.1 h); cases this), rfl⟩
    clear hbo x1
    go_wp2
    go_ret2
    exact ⟨HF.out _, X1.out⟩
  | true =>
    obtain ⟨t, hL, hn, hlb, hd⟩ := rmOk_right.2 (hbo.1 rfl)
    have HF : Hid (∀ b w', w.heap.size ≤ b → DtAt w' b t.at → RmC L w.heap.size (.returned (.tuple #[.pointer (some ⟨b, 0, none⟩), .int .i64 0])) w') := fun b w' hb hdt => .inl ⟨t, hL, hn, hlb, hd, b, rfl, hb, hdt⟩
    obtain ⟨m, hm⟩ : ∃ m : Nat, m = 4294967296 := ⟨_, rfl⟩
    have HST : Hid (∀ k, k < L.length → withL (cuts t.at (adr t m k)) ((L.getD k ((0, 0), 0)).1.1, (L.getD k ((0, 0), 0)).2) = cuts t.at (adr t m (k + 1)) ∧ adr t m k ≤ m) := fun k hk => by rw [hL]; rw [hL, zr_length] at hk; exact adr_step hm hd k hk
    have HA0 : Hid (adr t m 0 = 0) := adr_zero t m
    have HAN : Hid (adr t m L.length = m) := by unfold Hid; rw [hL, zr_length]; exact adr_last t m
    have HM := hide hm
    clear hm hL hn hlb hd
    have hP := heap_alloc_new w1 (.cells #[.slice none 0 0] 78)
    have hX2 := al x1 (.cells #[.slice none 0 0] 78)
    have HP := hide hP
    have HX2 := hide hX2
    have HS1 := hide x1.size
    clear hbo x1 hP hX2
    go_wp2
    go_loopw [6] (fun x wr => ∃ k : Nat, k ≤ L.length ∧ x = .int .i64 k ∧ ∃ v C, Hid (wr.heap[w1.heap.size]? = some (.cells #[v] 78 (0, 0))) ∧ Hid (OwnC wr w.heap.size v C) ∧ Hid (C = cuts t.at (adr t m k)) ∧ Hid (Below w.heap.size w wr)) (fun x _ => L.length - (RowKit.intOf x).toNat)
    case atStart => exact ⟨0, Nat.zero_le _, rfl, _, [], HP, World.ownsRow_nil _ _ 75 2, by unfold Hid; rw [HA0.out]; rfl, HX2⟩
    case round =>
      obtain ⟨k, hk, rfl, v, C, HV, HC, HCL, X⟩ := hrel
      rename World => wr
      by_cases hlt : k < L.length
      · have hlt' : (k : Int) < (L.length : Int) := by omega
        rcases HAT.out with h | ⟨b, off, rfl, hb, hc⟩
        · rw [h] at hlt; simp at hlt
        obtain ⟨p1, _, p3⟩ := hc k hlt
        have hbw : b < wr.heap.size := Nat.lt_of_lt_of_le hb X.out.size
        have r1 := (X.out.cell (p := ⟨b, off + k * 3, none⟩) hb).trans p1
        have r3 := (X.out.cell (p := ⟨b, off + k * 3 + 2, none⟩) hb).trans p3
        obtain ⟨hst, hle⟩ := HST.out k hlt
        have HLN2 : Hid (C.length ≤ 4294967296) := by have h1 := cuts_len t.at (adr t m k); have h2 := HM.out; have h3 := HCL.out; unfold Hid; rw [h3]; omega
        rw [← HCL.out] at hst
        have HST2 := hide hst
        clear hst hle
        generalize L.getD k ((0, 0), 0) = z at *
        obtain ⟨a2, c2, rfl, _⟩ := own_shape HC.out
        have t1 : wr.cell? ⟨w1.heap.size, 0, none⟩ = some (.slice a2 C.length c2) := by rw [cell_of_row wr w1.heap.size 0 _ _ _ HV.out]; rfl
        have htl := lt_of_block HV.out
        have HWT := hide (fun W (x : Below wr.heap.size wr W) => with_any (.slice a2 C.length c2) C z.1.1 z.2 w.heap.size W (Nat.le_trans X.out.size x.size) (by have := HLN2.out; omega) (own_below HC.out x))
        clear hc p1 p3
        go_wp2
        go_region_with (first
          | (go_at_call 47; refine (HWT.out _ (Below.refl _ _).drew).mono ?_; rintro e w5 ⟨⟨v5, rfl, o5⟩, x5, F, k5, hF⟩; have B5 := hide ((k5.block w1.heap.size htl (fun hf => by obtain ⟨cs, h5⟩ := own_ty HC.out _ (hF _ hf); rw [HV.out] at h5; simp at h5)).trans HV.out); have c5 : w5.cell? ⟨w1.heap.size, 0, none⟩ = some (.slice a2 C.length c2) := (by rw [cell_of_row w5 w1.heap.size 0 _ _ _ B5.out]; rfl); have f5 := frozen_of_row w5 w1.heap.size 0 _ _ B5.out; have O5 := hide o5; have X5 := hide (X.out.trans ((Below.refl _ _).drew.trans x5)); obtain ⟨a5, d5, rfl, _⟩ := own_shape o5; clear o5 x5 k5 hF))
        all_goals
          have V6 := hide ((block_setCell B5.out 0 (.slice a5 (withL C (z.1.1, z.2)).length d5)))
          have C6 : Hid (OwnC (w5.setCell ⟨w1.heap.size, 0, none⟩ (.slice a5 (withL C (z.1.1, z.2)).length d5)) w.heap.size (.slice a5 (withL C (z.1.1, z.2)).length d5) (withL C (z.1.1, z.2))) := own_kept O5.out (Kept.setCell (F := fun x => x = w1.heap.size) (p := ⟨w1.heap.size, 0, none⟩) (Kept.refl _ _) rfl _) (fun x h3 h4 => by
            subst h4
            obtain ⟨cs, h5⟩ := own_ty O5.out _ h3
            have h6 := B5.out
            rw [h5] at h6
            simp at h6)
          have X6 := hide (X5.out.setCell (p := ⟨w1.heap.size, 0, none⟩) HS1.out (.slice a5 (withL C (z.1.1, z.2)).length d5))
          clear c5 f5
          go_wp2
          go_roundw
          case rel => exact ⟨k + 1, by omega, by go_num, _, _, V6, C6, HST2.out, X6⟩
          case measure => simp [RowKit.intOf]; omega
      · have hnl : ¬ (k : Int) < (L.length : Int) := by omega
        go_wp2
        go_ret2
        have hkl : k = L.length := by omega
        have hC2 := HC.out
        rw [HCL.out, hkl, HAN.out] at hC2
        exact ⟨HF.out _ _ HS1.out ⟨v, _, m, HM.out, HV.out, hC2⟩, X.out⟩
end Go.Proofs.Ytnfdjbaafiifnaa
