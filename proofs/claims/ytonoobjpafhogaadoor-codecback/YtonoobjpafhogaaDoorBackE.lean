/-
  CodecBack's states: the Writer behind k items, the texts and what is wanted of each, the Reader of one of them. No walk. Conditions: as in each.
-/
import Derived.Test.YtonoobjpafhogaaDoorBackD
namespace Go.Proofs.YtonoobjpafhogaaDoor
open Go.RowKit

/-- The Writer behind k items. -/
structure PSt (N wb : Nat) (f : Nat → OpD) (w wr : World) (k : Nat) : Prop where
  wt : ∃ F, WAt 73 F wr wb 2147483647 (errOf 0) (encs f k) ∧ ∀ j, F j → N ≤ j ∧ j < wr.heap.size
  ns : N ≤ wr.heap.size
  below : Below N w wr
  hg : HG wr
  npos : 0 < N
theorem PSt.quiet {N wb : Nat} {f : Nat → OpD} {w wr wl : World} {k : Nat} (h : PSt N wb f w wr k) (hb : Below wr.heap.size wr wl) : PSt N wb f w wl k := by
  have hb' : Below N wr wl := hb.mono h.ns
  obtain ⟨F, h1, h2⟩ := h.wt
  exact ⟨⟨F, h1.below hb, fun j hj => ⟨(h2 j hj).1, Nat.lt_of_lt_of_le (h2 j hj).2 hb.size⟩⟩, Nat.le_trans h.ns hb.size, h.below.trans hb', h.hg.below hb' h.npos, h.npos⟩
theorem puts_st {N wb m len : Nat} {f : Nat → OpD} {w wr : World} {k : Nat} (h : PSt N wb f w wr k) (hk : k < len) (hw : wgt m f len ≤ 2147483647) (ho : OpOk (f k)) :
    Calls Tryd.prog 26 #[.pointer (some ⟨wb, 0, none⟩), .agg #[.int .i64 (f k).kind, .int .i64 (f k).on, .int .i64 (f k).size, .int .i64 (f k).n, .string (f k).s]] wr fun e w' =>
      e = .returned (.tuple #[]) ∧ PSt N wb f w w' (k + 1) := by
  obtain ⟨F, h1, h2⟩ := h.wt
  have e1 := encs_length m f k
  have e2 := wgt_mono m f (k + 1) len hk
  rw [wgt] at e2
  refine (puts_any F wr wb 2147483647 (encs f k) (f k) ho (Nat.le_refl _) (by omega) (fun j hj => (h2 j hj).2) h1).mono ?_
  rintro e w' ⟨rfl, x, y⟩
  have hb : Below N wr w' := y.below h.ns (fun j hj => (h2 j hj).1)
  refine ⟨rfl, ⟨⟨_, x.mono (G := fun j => (F j ∨ wr.heap.size ≤ j) ∧ j < w'.heap.size) (fun j a b => ⟨a, b⟩), ?_⟩, Nat.le_trans h.ns y.size, h.below.trans hb, h.hg.below hb h.npos, h.npos⟩⟩
  rintro j ⟨h3 | h3, h4⟩
  · exact ⟨(h2 j h3).1, h4⟩
  · exact ⟨Nat.le_trans h.ns h3, h4⟩
theorem done_st {N wb : Nat} {f : Nat → OpD} {w wr : World} {k : Nat} (h : PSt N wb f w wr k) :
    Calls Tryd.prog 27 #[.pointer (some ⟨wb, 0, none⟩)] wr fun e w' => e = .returned (.tuple #[.string (str (encs f k)), .int .i64 0]) ∧ PSt N wb f w w' k := by
  obtain ⟨F, h1, h2⟩ := h.wt
  refine (wDone_any F wr wb _ 0 (encs f k) h.hg h1).mono ?_
  rintro e w' ⟨rfl, hb⟩
  exact ⟨by simp [doneS], h.quiet hb⟩
theorem pst_start {w w2 w3 : World} {f : Nat → OpD} {wb : Nat} (hg : HG w) (HB2 : Below w.heap.size w w2)
    (X3 : WAt 73 (fun k => k = wb) w3 wb (roomOf 2147483647) (errOf 0) []) (Y3 : Below wb w2 w3) (Z3 : w3.heap.size = wb + 1) (E3 : w2.heap.size = wb) : PSt w.heap.size wb f w w3 0 := by
  have n2 := HB2.size
  have y3 : Below w.heap.size w2 w3 := Y3.mono (by omega)
  exact ⟨⟨_, X3, fun j hj => by omega⟩, by omega, HB2.trans y3, hg.below (HB2.trans y3) hg.pos, hg.pos⟩

/-- What is wanted of the k-th text. -/
def cW (k : Nat) : Int := if k = 0 then 0 else if k = 1 then 13 else 12
/-- The texts. -/
def tD (f : Nat → OpD) (len : Nat) (more : List UInt8) (k : Nat) : List UInt8 :=
  if k = 0 then encs f len else if k = 1 then encs f len ++ (120 :: more) else (encs f len).dropLast
/-- The texts and what is wanted, in memory. -/
structure TSt (N g qb m : Nat) (D : Nat → List UInt8) (w wr : World) : Prop where
  tx : ∀ k, k < m → wr.cell? ⟨g, k, none⟩ = some (.string (str (D k)))
  wt : ∀ k, k < m → wr.cell? ⟨qb, k, none⟩ = some (.int .i64 (cW k))
  gl : g < wr.heap.size
  ql : qb < wr.heap.size
  ns : N ≤ wr.heap.size
  below : Below N w wr
  hg : HG wr
  npos : 0 < N
theorem TSt.quiet {N g qb m : Nat} {D : Nat → List UInt8} {w wr wl : World} (h : TSt N g qb m D w wr) (hb : Below wr.heap.size wr wl) : TSt N g qb m D w wl := by
  have hb' : Below N wr wl := hb.mono h.ns
  exact ⟨fun k hk => (hb.cell (p := ⟨g, k, none⟩) h.gl).trans (h.tx k hk), fun k hk => (hb.cell (p := ⟨qb, k, none⟩) h.ql).trans (h.wt k hk), Nat.lt_of_lt_of_le h.gl hb.size, Nat.lt_of_lt_of_le h.ql hb.size, Nat.le_trans h.ns hb.size, h.below.trans hb', h.hg.below hb' h.npos, h.npos⟩
/-- The Reader of one of them. -/
structure RS (N g qb m rb : Nat) (D : Nat → List UInt8) (w wr : World) (E : Int) (R : List UInt8) : Prop where
  ts : TSt N g qb m D w wr
  rd : RAt 77 wr rb R (errOf E)
  gr : g < rb
  qr : qb < rb
  nr : N ≤ rb
theorem RS.quiet {N g qb m rb : Nat} {D : Nat → List UInt8} {w wr wl : World} {E : Int} {R : List UInt8} (h : RS N g qb m rb D w wr E R) (hb : Below wr.heap.size wr wl) : RS N g qb m rb D w wl E R :=
  ⟨h.ts.quiet hb, h.rd.below hb, h.gr, h.qr, h.nr⟩
theorem reader_st {N g qb m : Nat} {D : Nat → List UInt8} {w wr : World} (h : TSt N g qb m D w wr) (k : Nat) :
    Calls Tryd.prog 19 #[.string (str (D k))] wr fun e w' => ∃ rb, e = .returned (.pointer (some ⟨rb, 0, none⟩)) ∧ RS N g qb m rb D w w' 0 (D k) := by
  refine (newReader_any (str (D k)) wr).mono ?_
  rintro e w' ⟨rfl, x, y, z⟩
  rw [str_toList] at x
  exact ⟨_, rfl, h.quiet y, x, h.gl, h.ql, h.ns⟩
theorem gets_st {N g qb m rb len : Nat} {f : Nat → OpD} {D : Nat → List UInt8} {w wr : World} {E : Int} {R : List UInt8} {k i : Nat} (h : RS N g qb m rb D w wr E R) (hi : i < len) (ho : OpOk (f i)) (hT : Txt f len (k = 2) (D k)) (hl : (D k).length ≤ 2147483647) (hr : IR f (k = 2) (D k) i E R) :
    Calls Tryd.prog 28 #[.pointer (some ⟨rb, 0, none⟩), .agg #[.int .i64 (f i).kind, .int .i64 (f i).on, .int .i64 (f i).size, .int .i64 (f i).n, .string (f i).s]] wr fun e w' =>
      ∃ v : Bool, e = .returned (.bool v) ∧ (¬ k = 2 → v = true) ∧ ∃ E' R', RS N g qb m rb D w w' E' R' ∧ IR f (k = 2) (D k) (i + 1) E' R' := by
  obtain ⟨s1, s2⟩ := ir_step hi ho hT hr
  have h3 := ir_length hr
  refine (gets_any wr rb E R (f i) ho (by omega) h.rd).mono ?_
  rintro e w' ⟨v, rfl, hv, x, y⟩
  have hb : Below N wr w' := y.below h.ts.ns (fun j hj => by rw [hj]; exact h.nr)
  have hgr := h.gr
  have hqr := h.qr
  refine ⟨v, rfl, fun hk => hv (s1 hk), _, _, ⟨⟨fun j hj => ?_, fun j hj => ?_, Nat.lt_of_lt_of_le h.ts.gl y.size, Nat.lt_of_lt_of_le h.ts.ql y.size, Nat.le_trans h.ts.ns y.size, h.ts.below.trans hb, h.ts.hg.below hb h.ts.npos, h.ts.npos⟩, x, h.gr, h.qr, h.nr⟩, s2⟩
  · exact (y.cell (p := ⟨g, j, none⟩) h.ts.gl (Nat.ne_of_lt hgr)).trans (h.ts.tx j hj)
  · exact (y.cell (p := ⟨qb, j, none⟩) h.ts.ql (Nat.ne_of_lt hqr)).trans (h.ts.wt j hj)
theorem rdone_st {N g qb m rb : Nat} {D : Nat → List UInt8} {w wr : World} {E : Int} {R : List UInt8} (h : RS N g qb m rb D w wr E R) :
    Calls Tryd.prog 24 #[.pointer (some ⟨rb, 0, none⟩)] wr fun e w' => e = .returned (.int .i64 (rDone E R)) ∧ RS N g qb m rb D w w' E R := by
  refine (rDone_any wr rb E R h.ts.hg h.rd).mono ?_
  rintro e w' ⟨rfl, hb⟩
  exact ⟨rfl, h.quiet hb⟩
/-- What is known of the k-th text. -/
theorem td_txt {f : Nat → OpD} {len m : Nat} {more : List UInt8} (hw : wgt more.length f len ≤ 2147483647) (hm : m = 2 ∨ (m = 3 ∧ encs f len ≠ [])) (k : Nat) (hk : k < m) :
    Txt f len (k = 2) (tD f len more k) ∧ (tD f len more k).length ≤ 2147483647 ∧ ∀ E R, IR f (k = 2) (tD f len more k) len E R → rDone E R = cW k ∧ (k = 2 → R = []) := by
  have e1 := encs_length more.length f len
  have h3 : k = 0 ∨ k = 1 ∨ (k = 2 ∧ encs f len ≠ []) := by
    rcases hm with hm | ⟨hm, hne⟩
    · omega
    · by_cases h2 : k = 2
      · exact .inr (.inr ⟨h2, hne⟩)
      · omega
  rcases h3 with rfl | rfl | ⟨rfl, hne⟩
  · have ed : tD f len more 0 = encs f len ++ [] := by rw [List.append_nil]; rfl
    refine ⟨.inl ⟨by omega, [], ed⟩, by rw [ed, List.append_nil]; omega, fun E R h => ?_⟩
    rw [ed] at h
    obtain ⟨rfl, rfl⟩ := ir_end_well (by omega) h
    exact ⟨rfl, fun h => by omega⟩
  · have ed : tD f len more 1 = encs f len ++ (120 :: more) := rfl
    refine ⟨.inl ⟨by omega, _, ed⟩, by rw [ed, List.length_append, List.length_cons]; omega, fun E R h => ?_⟩
    rw [ed] at h
    obtain ⟨rfl, rfl⟩ := ir_end_well (by omega) h
    exact ⟨rfl, fun h => by omega⟩
  · have ed : tD f len more 2 = (encs f len).dropLast := rfl
    refine ⟨.inr ⟨rfl, ed, hne⟩, by rw [ed, List.length_dropLast]; omega, fun E R h => ?_⟩
    rw [ed] at h
    obtain ⟨rfl, rfl⟩ := ir_end_short hne h
    exact ⟨rfl, fun _ => rfl⟩
end Go.Proofs.YtonoobjpafhogaaDoor
