/-
  The code's slot, ahead, settled by their contracts. Condition: lists no longer than a process can hold.
-/
import Derived.Test.YtdgoilkgplnhfaaGreatB21
import Derived.Test.YtdgoilkgplnhfaaGreatB18
import Derived.Deep.DeepCutAuto
import Derived.Deep.LoopGhost
import Derived.Test.YtdgoilkgplnhfaaGreatB20
import Derived.Shelf.SlSortCmp.NoneTotal
import Derived.Deep.RegionWith
namespace Go.Proofs.YtdgoilkgplnhfaaGreat
open Go.RowKit Go.Lib

/-- Where columns lead back. -/
def bkV (n : Nat) (sg sl sc fg fl fc : Nat) : Value := .agg #[.int .i64 (n : Int), .slice (some ⟨sg, 0, none⟩) sl sc, .slice (some ⟨fg, 0, none⟩) fl fc]
set_option maxRecDepth 100000 in
theorem slot_any (n tt c sg sl sc fg fl fc : Nat) (w : World) (h : c * n + tt ≤ 9223372036854775807) :
    Calls Tryz.prog 138 #[bkV n sg sl sc fg fl fc, .int .i64 (tt : Nat), .int .i64 (c : Nat)] w fun e w' => e = .returned (.int .i64 ((c * n + tt : Nat) : Int)) ∧ Below w.heap.size w w' := by
  have f1 : IntKind.i64.wrap ((c : Int) * (n : Int)) = ((c * n : Nat) : Int) := by rw [show (c : Int) * (n : Int) = ((c * n : Nat) : Int) by simp]; exact w64_n _ (by omega)
  have f2 : IntKind.i64.wrap (((c * n : Nat) : Int) + (tt : Int)) = ((c * n + tt : Nat) : Int) := by rw [show ((c * n : Nat) : Int) + (tt : Int) = ((c * n + tt : Nat) : Int) by simp]; exact w64_n _ h
  generalize c * n = m at *
  have X := hide (al (Below.refl w.heap.size w) (.cells #[.int .i64 (n : Int), .slice (some ⟨sg, 0, none⟩) sl sc, .slice (some ⟨fg, 0, none⟩) fl fc] 157))
  unfold bkV
  go_enter Tryz.func138, Tryz.ntmps138
  go_wp2
  go_ret
  exact ⟨by first | rfl | simp, X.out⟩
set_option maxRecDepth 100000 in
set_option maxHeartbeats 2000000 in
theorem ahead_any (n tt c i sg sc fg fc lo hi : Nat) (S F : List Nat) (w : World) (hi' : c * n + tt = i) (hb : i ≤ 140737488351232) (hS : i + 1 < S.length) (hlo : gN S i = lo) (hhi : gN S (i + 1) = hi) (h1 : lo ≤ hi) (h2 : hi ≤ F.length) (h3 : F.length ≤ fc) (hat : NAt w (some ⟨sg, 0, none⟩) S) :
    Calls Tryz.prog 139 #[bkV n sg S.length sc fg F.length fc, .int .i64 (tt : Nat), .int .i64 (c : Nat)] w fun e w' => (∃ ao, e = .returned (.slice ao (hi - lo) (fc - lo)) ∧ (lo < hi → ao = some ⟨fg, lo, none⟩)) ∧ Below w.heap.size w w' := by
  obtain ⟨sb, off, e0, hsb, c1⟩ := hat.get (show i < S.length by omega)
  obtain ⟨sb', off', e0', _, c2⟩ := hat.get hS
  simp only [Option.some.injEq, Addr.mk.injEq, and_true] at e0 e0'
  obtain ⟨rfl, rfl⟩ := e0
  obtain ⟨rfl, rfl⟩ := e0'
  rw [← gN_lt (show i < S.length by omega), hlo, Nat.zero_add] at c1
  rw [← gN_lt hS, hhi, Nat.zero_add] at c2
  have X1 := hide (al (Below.refl w.heap.size w) (.cells #[.int .i64 (n : Int), .slice (some ⟨sg, 0, none⟩) S.length sc, .slice (some ⟨fg, 0, none⟩) F.length fc] 157))
  have B1 := heap_alloc_new w (.cells #[.int .i64 (n : Int), .slice (some ⟨sg, 0, none⟩) S.length sc, .slice (some ⟨fg, 0, none⟩) F.length fc] 157)
  have HSL := hide (slot_any n tt c sg S.length sc fg F.length fc (w.alloc (.cells #[.int .i64 (n : Int), .slice (some ⟨sg, 0, none⟩) S.length sc, .slice (some ⟨fg, 0, none⟩) F.length fc] 157)) (by omega))
  rw [hi'] at HSL
  have a1 : (i : Int) < (S.length : Int) := by omega
  have a2 : (i : Int) + 1 < (S.length : Int) := by omega
  have a3 : IntKind.i64.wrap ((i : Int) + 1) = (i : Int) + 1 := by simp [IntKind.wrap, IntKind.bits, IntKind.signed]; omega
  have a4 : (lo : Int) ≤ (hi : Int) := by omega
  have a5 : (hi : Int) ≤ (fc : Int) := by omega
  have a6 : (hi : Int) ≤ (F.length : Int) := by omega
  have a7 : (0 : Int) ≤ (i : Int) + 1 := by omega
  have a8 : ((i : Int) + 1).toNat = i + 1 := by omega
  clear hi' hlo hhi hat
  unfold bkV at HSL ⊢
  go_enter Tryz.func139, Tryz.ntmps139
  go_wp2_with (fail)
  refine HSL.out.mono ?_
  rintro e w2 ⟨rfl, x2⟩
  have B2 := (x2.block _ (lt_of_block B1)).trans B1
  have d1 : w2.cell? ⟨w.heap.size, 1, none⟩ = some (.slice (some ⟨sg, 0, none⟩) S.length sc) := by rw [cell_of_row _ _ _ _ _ _ B2]; rfl
  have d2 : w2.cell? ⟨w.heap.size, 2, none⟩ = some (.slice (some ⟨fg, 0, none⟩) F.length fc) := by rw [cell_of_row _ _ _ _ _ _ B2]; rfl
  have X2 := hide (bt X1.out x2 (Nat.le_refl _))
  have d3 := (X2.out.cell (p := ⟨sg, i, none⟩) hsb).trans c1
  have d4 := (X2.out.cell (p := ⟨sg, i + 1, none⟩) hsb).trans c2
  clear HSL x2 B1 B2 c1 c2
  go_wp2
  go_quiet (fail)
  have X3 : Hid (Below w.heap.size w (w2.drewN nq)) := X2.out.trans ⟨rfl, rfl, rfl, Nat.le_refl _, fun _ _ => rfl⟩
  go_wp2
  all_goals
    go_ret
    exact ⟨⟨_, rfl, fun hl => by first | rfl | (simp; done) | omega⟩, X3.out⟩
set_option maxRecDepth 100000 in
set_option maxHeartbeats 2000000 in
theorem settled_any (w : World) (base pb : Nat) (lv pv ov rv : Value) (L P O : List Nat) (R : List Rm) (h : PrM w base pb lv pv ov rv L P O R) :
    Calls Tryz.prog 115 #[.pointer (some ⟨pb, 0, none⟩)] w fun e w' => (∃ b : Bool, e = .returned (.bool b) ∧ (b = true ↔ R.length = L.length ∨ 256 < R.length)) ∧ Below w.heap.size w w' := by
  obtain ⟨q0, q1, q2, q3⟩ := h.cells
  obtain ⟨la, lc, hlv⟩ := OwnN.shape (h.rws.own 0 (by simp))
  simp only [List.getElem_cons_zero] at hlv
  subst hlv
  obtain ⟨ra, rc, rfl⟩ := h.own.shape
  clear h
  go_enter Tryz.func115, Tryz.ntmps115
  go_wp2
  by_cases h1 : (R.length : Int) = (L.length : Int)
  · have h1' : decide ((R.length : Int) = (L.length : Int)) = true := by simpa using h1
    go_quiet (fail)
    have X3 : Hid (Below w.heap.size w (w.drewN nq)) := ⟨rfl, rfl, rfl, Nat.le_refl _, fun _ _ => rfl⟩
    go_wp2
    go_ret
    exact ⟨⟨_, rfl, by simp; omega⟩, X3.out⟩
  · have h1' : decide ((R.length : Int) = (L.length : Int)) = false := by simpa using h1
    have h1'' : ((R.length : Int) == (L.length : Int)) = false := by simpa using h1
    go_quiet (fail)
    have X3 : Hid (Below w.heap.size w (w.drewN nq)) := ⟨rfl, rfl, rfl, Nat.le_refl _, fun _ _ => rfl⟩
    go_wp2
    go_ret
    exact ⟨⟨_, rfl, by simp; omega⟩, X3.out⟩
end Go.Proofs.YtdgoilkgplnhfaaGreat
/-
  The code's order of states (by labels, then by numbers), and slices.SortFunc by it. Condition: at most 65536 states.
-/
namespace Go.Proofs.YtdgoilkgplnhfaaGreat
open Go.RowKit Go.Lib Go.Sort

/-- The first that is not 0. -/
def orZ (a c : Int) : Int := if a = 0 then c else a
set_option maxRecDepth 100000 in
theorem or_any (b cap : Nat) (a c : Int) (w : World) (h0 : w.cell? ⟨b, 0, none⟩ = some (.int .i64 a)) (h1 : w.cell? ⟨b, 1, none⟩ = some (.int .i64 c)) :
    Calls Tryz.prog 137 #[.slice (some ⟨b, 0, none⟩) 2 cap] w fun e w' => e = .returned (.int .i64 (orZ a c)) ∧ w' = w := by
  have HC : Hid (∀ i, i < 2 → w.cell? ⟨b, i, none⟩ = some (.int .i64 (if i = 0 then a else c))) := fun i hi => by
    match i, hi with
    | 0, _ => simpa using h0
    | 1, _ => simpa using h1
  clear h0 h1
  go_enter Tryz.func137, Tryz.ntmps137
  go_wp2
  go_loopg [8] 3 (fun g x wr => ∃ i : Nat, x = .int .i64 (i : Nat) ∧ i ≤ 2 ∧ Hid ((1 ≤ i → a = 0) ∧ (2 ≤ i → c = 0)) ∧ wr = w ∧ 2 - i < g)
  case atStart => exact ⟨0, rfl, by omega, ⟨fun h => by omega, fun h => by omega⟩, rfl, by omega⟩
  case round =>
    obtain ⟨i, rfl, hi2, HZ, rfl, hg⟩ := hrel
    have HG := hide hg
    clear hg
    by_cases hi : i < 2
    · have hi' : (i : Int) < 2 := by omega
      have ci := HC.out i hi
      obtain ⟨z, hz⟩ : ∃ z, z = (if i = 0 then a else c) := ⟨_, rfl⟩
      rw [← hz] at ci
      have HZZ := hide hz
      clear hz
      by_cases hzz : z = 0
      · have hzz' : ¬ ¬ z = 0 := fun h => h hzz
        go_wp2
        go_roundg (2 - (i + 1) + 1)
        case measure => have := HG.out; omega
        case rel =>
          refine ⟨i + 1, by first | rfl | go_num | (congr 1; omega), by omega, ⟨fun _ => ?_, fun h => ?_⟩, rfl, by omega⟩
          · by_cases e : i = 0
            · have := HZZ.out; rw [if_pos e] at this; rw [← this]; exact hzz
            · exact HZ.out.1 (by omega)
          · have := HZZ.out; rw [if_neg (by omega)] at this; rw [← this]; exact hzz
      · go_wp2
        go_ret
        refine ⟨?_, rfl⟩
        have := HZZ.out
        unfold orZ
        by_cases e : i = 0
        · rw [if_pos e] at this; subst this; rw [if_neg hzz]; rfl
        · rw [if_neg e] at this; subst this; rw [if_pos (HZ.out.1 (by omega))]; rfl
    · have hi' : ¬ (i : Int) < 2 := by omega
      go_wp2
      go_ret
      have h1 := HZ.out.1 (by omega)
      have h2 := HZ.out.2 (by omega)
      refine ⟨?_, rfl⟩
      unfold orZ
      rw [if_pos h1, h2]; rfl
theorem cmp129 (a b : Int) (W : World) : Calls Tryz.prog 129 #[.int .i64 a, .int .i64 b] W fun e w' => e = .returned (.int .i64 (Lib.compareInt a b)) ∧ w' = W := AnyG.cmp_Compare_int Tryz.cmpInt a b W
/-- The order: by labels, then by numbers. -/
def cfO (OU : List Nat) (x y : Nat) : Int := orZ (Lib.compareInt (gN OU x : Int) (gN OU y : Int)) (Lib.compareInt (x : Int) (y : Int))
set_option maxRecDepth 100000 in
set_option maxHeartbeats 2000000 in
theorem cmp136_any (oa : Option Addr) (oc cb x y : Nat) (OU : List Nat) (w : World) (hx : x < OU.length) (hy : y < OU.length) (hcb : w.cell? ⟨cb, 0, none⟩ = some (.slice oa OU.length oc)) (hcl : cb < w.heap.size) (hat : NAt w oa OU) :
    Calls Tryz.prog 136 #[.int .i64 (x : Nat), .int .i64 (y : Nat), .pointer (some ⟨cb, 0, none⟩)] w fun e w' => e = .returned (.int .i64 (cfO OU x y)) ∧ ∃ q os', w' = grow (w.drewN q) os' := by
  obtain ⟨ob, off, rfl, hob, c1⟩ := hat.get hx
  obtain ⟨_, _, e0, _, c2⟩ := hat.get hy
  simp only [Option.some.injEq, Addr.mk.injEq, and_true] at e0
  obtain ⟨rfl, rfl⟩ := e0
  rw [← gN_lt hx] at c1
  rw [← gN_lt hy] at c2
  have x' : (x : Int) < (OU.length : Int) := by omega
  have y' : (y : Int) < (OU.length : Int) := by omega
  have H129 := hide cmp129
  unfold cfO
  clear hat
  generalize gN OU x = a at *
  generalize gN OU y = b at *
  have B1 := heap_alloc_new w (.cells #[.int .i64 (Lib.compareInt (a : Int) (b : Int)), .int .i64 (Lib.compareInt (x : Int) (y : Int))] 3)
  have HOR := hide (or_any w.heap.size 2 (Lib.compareInt (a : Int) (b : Int)) (Lib.compareInt (x : Int) (y : Int)) (w.alloc (.cells #[.int .i64 (Lib.compareInt (a : Int) (b : Int)), .int .i64 (Lib.compareInt (x : Int) (y : Int))] 3)).drew (by show (w.alloc (.cells #[.int .i64 (Lib.compareInt (a : Int) (b : Int)), .int .i64 (Lib.compareInt (x : Int) (y : Int))] 3)).cell? _ = _; rw [cell_of_row _ _ _ _ _ _ B1]; rfl) (by show (w.alloc (.cells #[.int .i64 (Lib.compareInt (a : Int) (b : Int)), .int .i64 (Lib.compareInt (x : Int) (y : Int))] 3)).cell? _ = _; rw [cell_of_row _ _ _ _ _ _ B1]; rfl))
  have n1 : ¬ cb = w.heap.size := by omega
  have n2 : ¬ ob = w.heap.size := by omega
  clear B1
  go_enter Tryz.func136, Tryz.ntmps136
  go_wp2
  go_region_held3 (fun w' => w'.cell? ⟨cb, 0, none⟩ = some (.slice (some ⟨ob, off, none⟩) OU.length oc) ∧ w'.cell? ⟨ob, off + x, none⟩ = some (.int .i64 (a : Int)) ∧ w'.cell? ⟨ob, off + y, none⟩ = some (.int .i64 (b : Int))) (first | assumption | exact ⟨hcb, c1, c2⟩ | (simp [go_sem, *]; done))
    ((first
      | (go_at_call 129; refine (H129.out _ _ _).mono ?_; rintro e w' ⟨rfl, rfl⟩)
      | (go_at_call 137; refine HOR.out.mono ?_; rintro e w' ⟨rfl, rfl⟩)))
  all_goals
    go_wp2
    go_ret
    exact ⟨rfl, 1, #[.cells #[.int .i64 (Lib.compareInt (a : Int) (b : Int)), .int .i64 (Lib.compareInt (x : Int) (y : Int))] 3 (0, 0)], by rw [alloc_eq_grow]; rfl⟩
end Go.Proofs.YtdgoilkgplnhfaaGreat
