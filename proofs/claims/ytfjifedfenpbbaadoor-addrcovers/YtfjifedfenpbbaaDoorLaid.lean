/-
  What the listed variables give a walk (the table of powers of ten), and how a prefix comes in. No condition.
-/
import Derived.Test.YtfjifedfenpbbaaDoorRows
import Derived.Test.YtfjifedfenpbbaaDoorText
import Derived.ChangeSame
import Derived.ChangeVars
import Derived.JoinedOf
import Derived.RowKit
import Derived.RowKitTokens
import Derived.LaidMore
import Derived.Lay
import Derived.SevenTiedAt
import Derived.Stop.Joined
import Derived.OpenShut
import Derived.ProofKit
namespace Go.Proofs.YtfjifedfenpbbaaDoor
open Go.ChangeShapes Go.WideShapes Go.RowKit

theorem Tryd.own : ownKnob Tryd.prog.godebug = none := by kernel_rfl
theorem Tryd.laidOut : laidOutB Tryd.prog = true := by kernel_rfl
/-- The rows' list. -/
def laidList : List (String × DataW Unit) := Rows.addrBackRow.laid

theorem tab_of_laid {W : World} (h : laidMetH Tryd.prog laidList W) : Tab W := by
  rw [MakeChecks.laidMetH_plain _ _ _ (by kernel_rfl)] at h
  obtain ⟨ps, ⟨g0, t0, cs0, f0, p0, q0, _, _, _, _, ⟨g1, t1, cs1, f1, p1, q1, _, _, _, _, ⟨g, t, cs, fuel, p, q, hg, ht, hv, hd, _, _⟩, _⟩, _⟩, _⟩ := h
  obtain ⟨t', ht', hu⟩ : ∃ t', ((Tryd.prog.globalNamed "internal/strconv.uint64pow10").bind fun g => (Tryd.prog.globals[g]?).map (·.type)) = some t' ∧ (Tryd.prog.underlying t' = some (.array 20 104) ∧ Tryd.prog.cellsOf t' = 20) := by
    refine ⟨_, rfl, ?_⟩
    exact ⟨by kernel_rfl, by kernel_rfl⟩
  rw [hg, Option.bind_some, ht] at ht'
  obtain rfl := Option.some.inj ht'
  have hd' : DataW.trod (fun _ => ()) Tryd.prog W 0 (fun _ => true) false fuel t cs.toList = some (Lib.tabData .u64 Lib.pow10Tab, p) := hd
  unfold Tab Lib.TabIs
  rw [hv, ← Lib.cells_of_tab hu.1 (show Tryd.prog.underlying 104 = some (.int .u64) from Tryd.underlying104) (by kernel_rfl) hu.2 hd']

set_option maxRecDepth 100000 in
/-- A struct of two ints, opened. -/
theorem pair_open {H : Type} {enc : TypeId × Value → H} {W : World} {base : Nat} {v : Value} {d : DataW H} {p : List MemPlace} {T : TypeId} {f0 f1 : Field} {b : Nat} {sp : Nat → Bool} {held : Bool} {r : _} (ht : Tryd.prog.underlying T = some (.struct #[f0, f1])) (hc : Tryd.prog.cellsOf T = 2) (h0 : f0.type = 3 ∧ f0.offset = 0) (h1 : f1.type = 3 ∧ f1.offset = 1)
    (hok : Value.okWide Tryd.prog W r base T v) (h : DataW.Trod enc Tryd.prog W b sp held T v d p) : ∃ a k : Int, v = .agg #[.int .i64 a, .int .i64 k] := by
  obtain ⟨cs, rfl, hsz⟩ := okWide_struct ht hok
  obtain ⟨fuel, hf⟩ := h
  obtain ⟨y0, y1, n, _, _, e0, e1⟩ := trod_struct2 ht hf
  rw [hc] at hsz
  have c3 : Tryd.prog.cellsOf 3 = 1 := by kernel_rfl
  rw [h0.1, h0.2, c3] at e0
  rw [h1.1, h1.2, c3] at e1
  obtain ⟨z0, g0, _⟩ := DataW.trod_int Tryd.underlying3 e0
  obtain ⟨z1, g1, _⟩ := DataW.trod_int Tryd.underlying3 e1
  obtain ⟨l⟩ := cs
  match l, hsz with
  | [x, y], _ =>
    simp [Value.cells] at g0 g1
    exact ⟨z0, z1, by rw [g0, g1]⟩
end Go.Proofs.YtfjifedfenpbbaaDoor
