/-
  awake: some of the chapter's examples answer as they must. No condition.
-/
import Derived.Test.YtkpdbbbeagnjpaaGreatDoorQ11
import Derived.Shelf.Small.Utf8
import Derived.Shelf.Small.Strs
import Derived.Test.YtkpdbbbeagnjpaaGreatDoorProg
import Derived.Test.YtkpdbbbeagnjpaaGreatDoorQ09
import Derived.Laws.Runes
import Derived.WalkMore
import Derived.BigQuiet
namespace Go.Proofs.YtkpdbbbeagnjpaaGreatDoor
open Go.RowKit Go.Lib

set_option maxHeartbeats 4000000 in
set_option maxRecDepth 100000 in
theorem awake_any (w : World) : Calls Tryz.prog 7 #[] w fun e w' => e = .returned (.bool true) ∧ Below w.heap.size w w' := by
  have HA := hide (awakeA w)
  have HB := hide awakeB
  have HQ1 := hide awakeQ1
  have HQ2 := hide awakeQ2
  have HN1 := hide awakeN1
  have HN2 := hide awakeN2
  have HW1 := hide awakeW1
  have HW2 := hide awakeW2
  go_enter Tryz.func7, Tryz.ntmps7
  go_upto_region 2 with (go_at_call 8; refine HA.out.mono ?_; rintro e w1 ⟨⟨g, cap, rfl, ho⟩, x1⟩; have HO := hide ho; have X1 := hide x1; clear ho x1)
  have HC : Hid (∀ V, Below w1.heap.size w1 V → V.cell? ⟨g, 0, none⟩ = some (.int .i64 1) ∧ V.cell? ⟨g, 1, none⟩ = some (.string ⟨#[108, 101, 116]⟩) ∧ V.cell? ⟨g, 2, none⟩ = some (.int .i64 0) ∧ V.cell? ⟨g, 3, none⟩ = some (.int .i64 0) ∧ V.cell? ⟨g, 4, none⟩ = some (.int .i64 0) ∧ V.cell? ⟨g, 5, none⟩ = some (.int .i64 0) ∧ V.cell? ⟨g, 18, none⟩ = some (.int .i64 6) ∧ V.cell? ⟨g, 19, none⟩ = some (.string ⟨#[120, 34, 121]⟩) ∧ V.cell? ⟨g, 20, none⟩ = some (.int .i64 0) ∧ V.cell? ⟨g, 21, none⟩ = some (.int .i64 0) ∧ V.cell? ⟨g, 22, none⟩ = some (.int .i64 0) ∧ V.cell? ⟨g, 23, none⟩ = some (.int .i64 10) ∧ V.cell? ⟨g, 30, none⟩ = some (.int .i64 8) ∧ V.cell? ⟨g, 31, none⟩ = some (.string ⟨#[]⟩) ∧ V.cell? ⟨g, 32, none⟩ = some (.int .i64 0) ∧ V.cell? ⟨g, 33, none⟩ = some (.int .i64 0) ∧ V.cell? ⟨g, 34, none⟩ = some (.int .i64 0) ∧ V.cell? ⟨g, 35, none⟩ = some (.int .i64 21)) := fun V y => by
    have o := own_below HO.out y
    rw [tkA_cells] at o
    have key := fun (j : Nat) (u : Value) hu => by
      have := o.cells (g := g) rfl j u hu
      rw [show (⟨g, 0, none⟩ : Addr).add j = ⟨g, 0 + j, none⟩ by unfold Addr.add; split <;> simp_all, Nat.zero_add] at this
      exact this
    exact ⟨key 0 _ rfl, key 1 _ rfl, key 2 _ rfl, key 3 _ rfl, key 4 _ rfl, key 5 _ rfl, key 18 _ rfl, key 19 _ rfl, key 20 _ rfl, key 21 _ rfl, key 22 _ rfl, key 23 _ rfl, key 30 _ rfl, key 31 _ rfl, key 32 _ rfl, key 33 _ rfl, key 34 _ rfl, key 35 _ rfl⟩
  clear HO HA
  go_upto_region 3 with (go_at_call 8; refine (HB.out _).mono ?_; rintro e w2 ⟨rfl, x2⟩; have X2 := hide x2; clear x2)
  go_upto_region 4 with (go_at_call 12; refine (HQ1.out _).mono ?_; rintro e w3 ⟨rfl, x3⟩; have X3 := hide (bt X2.out x3 (Nat.le_refl _)); clear x3)
  go_upto_region 5 with (go_at_call 12; refine (HQ2.out _).mono ?_; rintro e w4 ⟨rfl, x4⟩; have X4 := hide (bt X3.out x4 (Nat.le_refl _)); clear x4)
  clear HB HQ1 HQ2
  obtain ⟨k0, k1, k2, k3, k4, k5, k18, k19, k20, k21, k22, k23, k30, k31, k32, k33, k34, k35⟩ := HC.out w4 X4.out
  go_upto_region 7 with fail
  have q0 := eqB0
  have q1 := eqB1
  have q2 := eqB2
  go_wp2_with (fail)
  refine (HN1.out _).mono ?_
  rintro e w5 ⟨rfl, x5⟩
  have X5 := hide (bt X4.out x5 (Nat.le_refl _))
  clear x5 HN1 q0 q1 q2
  go_wp2_with (fail)
  refine (HN2.out _).mono ?_
  rintro e w6 ⟨rfl, x6⟩
  have X6 := hide (bt X5.out x6 (Nat.le_refl _))
  clear x6 HN2
  go_wp2_with (fail)
  refine (HW1.out _).mono ?_
  rintro e w7 ⟨rfl, hw7⟩
  subst hw7
  clear HW1
  go_wp2_with (fail)
  refine (HW2.out _).mono ?_
  rintro e w8 ⟨rfl, hw8⟩
  subst hw8
  go_wp2
  go_ret
  exact ⟨rfl, bt X1.out X6.out (Nat.le_refl _)⟩
end Go.Proofs.YtkpdbbbeagnjpaaGreatDoor
/-
  Contracts of utf8.ValidRune and strings.IndexByte at this program, laid off the library by its own tool. Conditions: as each says.
-/
namespace Go.Proofs
open Go.Shelf
def Tryz.lays119_ren : Go.Shelf.Ren := ⟨fun | 119 => 84 | n => n, fun | 21 => 21 | 4 => 4 | n => n, fun | n => n⟩
theorem Tryz.lays119 : Go.Proofs.Lays.n119 Tryz.prog Tryz.lays119_ren := {
  mixed := by kernel_rfl
  f119 := Tryz.func84.trans (congrArg some (by kernel_rfl))
  t4 := Tryz.underlying4
  a4 := Tryz.isAgg4
  z4 := Tryz.sizeOf4
  v4 := Tryz.zeroValue4
  t21 := Tryz.underlying21
  a21 := Tryz.isAgg21
  z21 := Tryz.sizeOf21
  v21 := Tryz.zeroValue21 }
theorem Tryz.utf8_ValidRune (r : Int) (w : World) :
    Calls Tryz.prog 84 #[.int .i32 r] w fun e w' => e = .returned (.bool (Lib.validRune r)) ∧ w' = w := Any.utf8_ValidRune Tryz.lays119 r w
def Tryz.lays137_ren : Go.Shelf.Ren := ⟨fun | 137 => 83 | 217 => 96 | 266 => 102 | n => n, fun | 9 => 9 | 5 => 5 | 3 => 3 | n => n, fun | n => n⟩
theorem Tryz.lays137 : Go.Proofs.Lays.n137 Tryz.prog Tryz.lays137_ren := {
  mixed := by kernel_rfl
  f137 := Tryz.func83.trans (congrArg some (by kernel_rfl))
  f217 := Tryz.func96.trans (congrArg some (by kernel_rfl))
  f266 := Tryz.func102.trans (congrArg some (by kernel_rfl))
  t3 := Tryz.underlying3
  a3 := Tryz.isAgg3
  z3 := Tryz.sizeOf3
  v3 := Tryz.zeroValue3
  t5 := Tryz.underlying5
  a5 := Tryz.isAgg5
  z5 := Tryz.sizeOf5
  v5 := Tryz.zeroValue5
  t9 := Tryz.underlying9
  a9 := Tryz.isAgg9
  z9 := Tryz.sizeOf9
  v9 := Tryz.zeroValue9 }
open Go.RowKit in
theorem Tryz.strings_IndexByte (s : ByteArray) (c : Int) (w : World) :
    Calls Tryz.prog 83 #[.string s, .int .u8 c] w fun e w' => e = .returned (.int .i64 (Lib.indexByte s.data.toList c.toNat.toUInt8)) ∧ w' = w := Any.strings_IndexByte Tryz.lays137 s c w
end Go.Proofs
/-
  isSign of a rune from 128 on: it is none. No condition.
-/
namespace Go.Proofs.YtkpdbbbeagnjpaaGreatDoor
open Go.RowKit Go.Lib

theorem sign_low : ∀ i (hi : i < signsL.length), signsL[i].toNat < 128 := by decide
theorem idx_none (l : By) (c : UInt8) (hl : ∀ b ∈ l, b.toNat < 128) (hc : 128 ≤ c.toNat) : Lib.indexByte l c = -1 := by
  induction l with
  | nil => rfl
  | cons b t ih =>
    have hb := hl b List.mem_cons_self
    have hne : (b == c) = false := by
      rw [beq_eq_false_iff_ne]
      intro e
      rw [e] at hb
      omega
    unfold Lib.indexByte
    rw [hne, if_neg (by decide), ih (fun x hx => hl x (List.mem_cons_of_mem _ hx))]
    rfl
theorem below_drewQ {B : Nat} {a w : World} (n : Nat) (h : Below B a w) : Below B a (w.drewN n) := ⟨h.os, h.tape, h.output, h.size, h.block⟩
set_option maxHeartbeats 4000000 in
set_option maxRecDepth 100000 in
theorem idxRune_high (r : Int) (h : 128 ≤ r) (w : World) : Calls Tryz.prog 71 #[.string ⟨#[123, 125, 40, 41, 44, 59, 61, 126, 45]⟩, .int .i32 r] w fun e w' => e = .returned (.int .i64 (-1)) ∧ Below w.heap.size w w' := by
  have h1 : (0 : Int) ≤ r := by omega
  have h2 : ¬ r < 128 := by omega
  by_cases he : r = 65533
  · subst he
    clear h h1 h2
    obtain ⟨s, hs⟩ : ∃ s : ByteArray, Hid (s = ⟨signsL.toArray⟩) := ⟨_, rfl⟩
    have hsl : (⟨#[123, 125, 40, 41, 44, 59, 61, 126, 45]⟩ : ByteArray) = s := hs.out.symm
    rw [hsl]
    clear hsl
    go_enter Tryz.func71, Tryz.ntmps71
    go_wp2
    go_loopw [] (fun wr => ∃ pos : Nat, wr.heap[w.heap.size]? = some (.stringIter s pos) ∧ Below w.heap.size w wr ∧ pos ≤ 9) (fun wr => 9 - wr.iterPos w.heap.size)
    case atStart =>
      refine ⟨0, ?_, (Below.refl _ w).alloc (Nat.le_refl _) _, by omega⟩
      have := World.iter_heap w s 0
      simpa using this
    case round =>
      obtain ⟨pos, hit, hbw, hp1⟩ := hrel
      have hsz : s.size = 9 := by rw [hs.out]; rfl
      by_cases hp : pos < 9
      · have hlow : (s[pos]'(by omega)).toNat < 128 := by
          have := sign_low pos hp
          have e : s[pos]'(by omega) = signsL[pos]'hp := by
            have := hs.out
            subst this
            exact bs_get signsL pos _
          rw [e]; exact this
        have hnx : ∀ ty, (Instr.next (.pointer (some ⟨w.heap.size, 0, none⟩)) true ty).run Tryz.prog wr = _ := fun ty => Lib.run_next_ascii_at wr w.heap.size s pos ty hit (by omega) hlow
        have HI2 := hide (Lib.iterAt_heap wr w.heap.size s pos (pos + 1) hit)
        have HX2 := hide (Lib.below_iterAt hbw (k := w.heap.size) (Nat.le_refl _) s (pos + 1))
        generalize (s[pos]'(by omega)).toNat = b at *
        have hb : ¬ (b : Int) = 65533 := by omega
        go_wp2
        go_roundw
        case rel => exact ⟨pos + 1, HI2.out, HX2.out, by omega⟩
        case measure =>
          simp only [World.iterPos, HI2.out, hit]
          omega
      · have hnx : ∀ ty, (Instr.next (.pointer (some ⟨w.heap.size, 0, none⟩)) true ty).run Tryz.prog wr = _ := fun ty => Lib.run_next_end_at wr w.heap.size s pos ty hit (by omega)
        have HX2 := hide hbw
        go_wp2
        go_ret
        exact ⟨rfl, HX2.out⟩
  · have he' : (r == 65533) = false := by simp [he]
    have HV := hide (fun W => Tryz.utf8_ValidRune r W)
    cases hv : Lib.validRune r with
    | false =>
      rw [hv] at HV
      clear hv
      go_enter Tryz.func71, Tryz.ntmps71
      go_wp2_with (go_at_call 84; refine (HV.out _).mono ?_; rintro e wz ⟨rfl, hwz⟩; have hwz := hwz.symm; subst hwz)
      go_ret
      exact ⟨rfl, Below.refl _ _⟩
    | true =>
      have hv2 : Utf8.valid r = true := by
        unfold Lib.validRune at hv
        simp only [decide_eq_true_eq] at hv
        unfold Utf8.valid
        simp
        omega
      rw [hv] at HV
      obtain ⟨e1, e2, e3⟩ := encode_facts r hv2 h
      generalize hE : Utf8.encode r = E at *
      have hE2 : ∀ W : World, (convert 21 9 (.int .i32 r)).run Tryz.prog W = .ok (.string E) W := fun W => by
        rw [run_convert_int_string W 21 9 .i32 r (by kernel_rfl) Tryz.underlying9, hE]
      clear hv hv2 hE
      obtain ⟨m, hm⟩ : ∃ m : Nat, E.size = m + 1 := ⟨E.size - 1, by omega⟩
      have hmE : m < E.size := by omega
      obtain ⟨c, hc⟩ : ∃ c, E[m]'hmE = c := ⟨_, rfl⟩
      have hgE : ∀ hk, E[m]'hk = c := fun _ => hc
      have hc128 : 128 ≤ c.toNat := by
        have := e3 (by omega)
        have e : E[E.size - 1]'(by omega) = E[m]'hmE := by congr 1; omega
        rw [e, hc] at this
        exact this
      have hm9 : m < signsL.length := by show m < 9; omega
      obtain ⟨a, ha⟩ : ∃ a, signsL[m]'hm9 = a := ⟨_, rfl⟩
      have ha128 : a.toNat < 128 := by rw [← ha]; exact sign_low m hm9
      have hgS : ∀ hk, (⟨#[123, 125, 40, 41, 44, 59, 61, 126, 45]⟩ : ByteArray)[m]'hk = a := fun hk => (bs_get signsL m hk).trans ha
      have HIB := hide (fun W => Tryz.strings_IndexByte ((⟨#[123, 125, 40, 41, 44, 59, 61, 126, 45]⟩ : ByteArray).extract (m + 1) 9) (c.toNat : Int) W)
      have hnone : Lib.indexByte ((⟨#[123, 125, 40, 41, 44, 59, 61, 126, 45]⟩ : ByteArray).extract (m + 1) 9).data.toList (c.toNat : Int).toNat.toUInt8 = -1 := by
        have e : (⟨#[123, 125, 40, 41, 44, 59, 61, 126, 45]⟩ : ByteArray).extract (m + 1) 9 = ⟨(cutB signsL (m + 1) 9).toArray⟩ := ext_cut signsL (m + 1) 9
        rw [e]
        refine idx_none _ _ (fun b hb => ?_) (by simpa using hc128)
        have : b ∈ signsL := by
          have hb2 : b ∈ cutB signsL (m + 1) 9 := by simpa using hb
          exact List.mem_of_mem_take (List.mem_of_mem_drop hb2)
        obtain ⟨i, hi, rfl⟩ := List.getElem_of_mem this
        exact sign_low i hi
      rw [hnone] at HIB
      have hne : ¬ (a.toNat : Int) = (c.toNat : Int) := by omega
      have hmi : (m : Int) < 9 := by omega
      have f1 : IntKind.i64.wrap ((m : Int) + 1 - 1) = (m : Int) := by rw [show (m : Int) + 1 - 1 = (m : Int) by omega]; simp [IntKind.wrap, IntKind.bits, IntKind.signed]; omega
      have f1' : IntKind.i64.wrap (m : Int) = (m : Int) := by simp [IntKind.wrap, IntKind.bits, IntKind.signed]; omega
      have f2 : IntKind.i64.wrap ((m : Int) + 1) = (m : Int) + 1 := by rw [show (m : Int) + 1 = ((m + 1 : Nat) : Int) by simp]; simp [IntKind.wrap, IntKind.bits, IntKind.signed]; omega
      have h9 : (m : Int) + 1 ≤ 9 := by omega
      have h10 : (0 : Int) ≤ (m : Int) + 1 := by omega
      have h11 : ((m : Int) + 1).toNat = m + 1 := by omega
      have h12 : (m : Int) < (m : Int) + 1 := by omega
      clear hnone ha hc e1 e2 e3 hc128 ha128
      go_enter Tryz.func71, Tryz.ntmps71
      go_wp2_with (go_at_call 84; refine (HV.out _).mono ?_; rintro e wz ⟨rfl, hwz⟩; have hwz := hwz.symm; subst hwz)
      go_step3
      go_wp2
      go_loopg [9] 1 (fun g x wr => x = .int .i64 (m : Nat) ∧ wr = w ∧ 0 < g)
      case atStart => exact ⟨rfl, rfl, by omega⟩
      case round =>
        obtain ⟨rfl, hw, hg⟩ := hrel
        subst hw
        go_wp2
        go_step3
        go_wp2
        go_region
        all_goals
          go_wp2
          go_quiet (first | (go_at_call 83; exact (HIB.out _).mono fun _ _ he => ⟨he.1, _, he.2⟩))
          go_wp2
          simp only [Exit.noGoto_ret, Exit.inBlock, Exit.then]
          go_ret
          exact ⟨rfl, below_drewQ _ (Below.refl _ _)⟩
set_option maxHeartbeats 4000000 in
set_option maxRecDepth 100000 in
theorem isSign_high (r : Int) (h : 128 ≤ r) (w : World) : Calls Tryz.prog 56 #[.int .i32 r] w fun e w' => e = .returned (.bool false) ∧ Below w.heap.size w w' := by
  have HI := hide (idxRune_high r h w)
  have HC : Hid (Calls Tryz.prog 66 #[.string ⟨#[123, 125, 40, 41, 44, 59, 61, 126, 45]⟩, .int .i32 r] w fun e w' => e = .returned (.bool false) ∧ Below w.heap.size w w') := by
    unfold Hid
    go_enter Tryz.func66, Tryz.ntmps66
    go_wp2_with (go_at_call 71; refine HI.out.mono ?_; rintro e w1 ⟨rfl, x1⟩; have X1 := hide x1; clear x1)
    go_ret
    exact ⟨rfl, X1.out⟩
  clear HI
  go_enter Tryz.func56, Tryz.ntmps56
  go_wp2_with (go_at_call 66; refine HC.out.mono ?_; rintro e w1 ⟨rfl, x1⟩; have X1 := hide x1; clear x1)
  go_ret
  exact ⟨rfl, X1.out⟩
end Go.Proofs.YtkpdbbbeagnjpaaGreatDoor
/-
  begin by its contract, of a rune from 128 on, and so of any. No condition but the scanner's place.
-/
namespace Go.Proofs.YtkpdbbbeagnjpaaGreatDoor
open Go.RowKit Go.Lib

theorem sm_high {r : Int} (h : 128 ≤ r) : smB r = false := by unfold smB; have : decide (r ≤ 122) = false := (by simp; omega); rw [this, Bool.and_false]
theorem gr_high {r : Int} (h : 128 ≤ r) : grB r = false := by unfold grB; have : decide (r ≤ 90) = false := (by simp; omega); rw [this, Bool.and_false]
theorem dg_high {r : Int} (h : 128 ≤ r) : dgB r = false := by unfold dgB; have : decide (r ≤ 57) = false := (by simp; omega); rw [this, Bool.and_false]
theorem bl_high {r : Int} (h : 128 ≤ r) : blB r = false := by
  unfold blB
  have e1 : decide (r = 32) = false := by simp; omega
  have e2 : decide (r = 9) = false := by simp; omega
  have e3 : decide (r = 10) = false := by simp; omega
  have e4 : decide (r = 13) = false := by simp; omega
  rw [e1, e2, e3, e4]
  rfl
theorem sg_high {r : Int} (h : 128 ≤ r) : sgB r = false := by
  rw [← Bool.not_eq_true]
  intro hs
  have hcs : r = 123 ∨ r = 125 ∨ r = 40 ∨ r = 41 ∨ r = 44 ∨ r = 59 ∨ r = 61 ∨ r = 126 ∨ r = 45 := by simpa [sgB, or_assoc] using hs
  omega
theorem tx_high {r : Int} (h : 128 ≤ r) : txB r = false := by unfold txB; have : decide (r ≤ 126) = false := (by simp; omega); rw [this, Bool.and_false]
theorem es_high {r : Int} (h : 128 ≤ r) : esB r = false := by
  unfold esB
  have e1 : decide (r = 34) = false := by simp; omega
  have e2 : decide (r = 92) = false := by simp; omega
  rw [e1, e2]
  rfl
theorem beginP_high (x : SS) (q : Int) {r : Int} (h : 128 ≤ r) : beginP x q r = (80, { x with fr := q, st := 0 }) := by
  unfold beginP
  rw [if_neg (by rw [bl_high h]; decide), if_neg (by omega), if_neg (by rw [sm_high h]; decide), if_neg (by rw [gr_high h]; decide), if_neg (by rw [dg_high h]; decide), if_neg (by omega), if_neg (by rw [sg_high h]; decide)]
section
variable {w : World} {base p : Nat} {s : By} {x : SS}
set_option maxHeartbeats 4000000 in
set_option maxRecDepth 100000 in
theorem begin_high (h : ScA w base p s x) (q r : Int) (h1 : 128 ≤ r) :
    Calls Tryz.prog 36 #[.pointer (some ⟨p, 0, none⟩), .int .i64 q, .int .i32 r] w fun e w' => ScE w base p s (beginP x q r) e w' := by
  obtain ⟨tv, ad, bv, h⟩ := h
  obtain ⟨c0, c2, c3, f2, f3⟩ := h.cells
  obtain ⟨s1, k1⟩ := h.setFr q
  obtain ⟨s2, k2⟩ := s1.setSt 0
  have K2 := hide (k1.trans k2)
  have S2 := hide s2
  have H1 := hide (fun W => isBlank_any r W)
  have H2 := hide (fun W => isSmall_any r W)
  have H3 := hide (fun W => isGreat_any r W)
  have H4 := hide (fun W => isDigit_any r W)
  have H5 := hide (fun W => isSign_high r h1 W)
  have HM := hide (beginP_high x q h1)
  rw [bl_high h1] at H1
  rw [sm_high h1] at H2
  rw [gr_high h1] at H3
  rw [dg_high h1] at H4
  have e35 : (r == 35) = false := by simp; omega
  have e34 : (r == 34) = false := by simp; omega
  have n35 : ¬ r = 35 := by omega
  have n34 : ¬ r = 34 := by omega
  clear h s1 s2 k1 k2 h1
  go_enter Tryz.func36, Tryz.ntmps36
  go_upto_region 4 with fail
  obtain ⟨w2, hw2⟩ : ∃ w2, w2 = (w.setCell ⟨p, 3, none⟩ (.int .i64 q)).setCell ⟨p, 2, none⟩ (.int .i64 0) := ⟨_, rfl⟩
  rw [← hw2] at S2 K2 ⊢
  clear hw2 c0 c2 c3 f2 f3
  have HS := hide K2.out.size
  go_wp2_with (first | (go_at_call 55; refine (H1.out _).mono ?_; rintro e wz ⟨rfl, hwz⟩; have hwz := hwz.symm; subst hwz) | (go_at_call 28; refine (H2.out _).mono ?_; rintro e wz ⟨rfl, hwz⟩; have hwz := hwz.symm; subst hwz) | (go_at_call 45; refine (H3.out _).mono ?_; rintro e wz ⟨rfl, hwz⟩; have hwz := hwz.symm; subst hwz) | (go_at_call 44; refine (H4.out _).mono ?_; rintro e wz ⟨rfl, hwz⟩; have hwz := hwz.symm; subst hwz) | (go_at_call 56; refine (H5.out _).mono ?_; rintro e w3 ⟨rfl, x3⟩; have X3 := hide x3; clear x3))
  go_ret
  rw [HM.out]
  exact ⟨rfl, ⟨_, _, _, S2.out.below X3.out⟩, K2.out.trans (KpT.of_below X3.out), Nat.le_trans HS.out X3.out.size⟩
theorem begin_all (h : ScA w base p s x) (q r : Int) (h0 : 0 ≤ r) (hb : base ≤ w.heap.size) (hl : x.tk.length ≤ 4294967296) :
    Calls Tryz.prog 36 #[.pointer (some ⟨p, 0, none⟩), .int .i64 q, .int .i32 r] w fun e w' => ScE w base p s (beginP x q r) e w' := by
  by_cases h1 : r < 128
  · exact begin_any h q r h0 h1 hb hl
  · exact begin_high h q r (by omega)
end
end Go.Proofs.YtkpdbbbeagnjpaaGreatDoor
