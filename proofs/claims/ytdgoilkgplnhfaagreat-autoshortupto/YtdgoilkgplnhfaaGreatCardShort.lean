/-
  AutoShort, up to the bound: whatever it is given of bulk at most 1048576, it answers true, and what it was given reads as it did. Conditions: the statement's own bound.
-/
import Derived.Test.YtdgoilkgplnhfaaGreatRows
import Derived.Test.YtdgoilkgplnhfaaGreatB48
import Derived.WalkKit
import Derived.ProofKit
import Derived.OpenShut
import Derived.ShutString
import Derived.Carry
import Derived.JoinedCond
namespace Go.Proofs.YtdgoilkgplnhfaaGreat.autoShortDone
open Go.ChangeShapes Go.WideShapes Go.ChangeAt Go.RowKit
open Go.ChangeMaps (open_string shut_string)

theorem own : ownKnob Tryz.prog.godebug = none := by kernel_rfl

set_option maxRecDepth 100000 in
theorem lifted (os : Os) (started : os.Started) (H : Type) (enc : TypeId × Value → H) (F : Stop.Interp) :
    ReturnsInHanded {} Tryz.checked os 8 .any ((Rows.OpenSpec.upto Rows.autoShortSpec).pre6 enc Tryz.prog Tryz.f8 Rows.autoShortUptoRow.domain false) (((Rows.OpenSpec.upto Rows.autoShortSpec).at F).post enc Tryz.prog Tryz.f8 false true false false) := by
  refine returnsInHanded_of_cond (C := Tryz.checked) (s := Rows.OpenSpec.upto Rows.autoShortSpec) (k := Rows.uptoSmall) rfl own started (by kernel_rfl) Tryz.func8
    (OpenSpec.witness (enc := enc) (C := Tryz.checked) (s := Rows.OpenSpec.upto Rows.autoShortSpec) (k := Rows.uptoSmall) rfl false ⟨#[], #[.string .empty, .int .i64 0, .string .empty], []⟩ 8 (by kernel_rfl) (by kernel_rfl) (by kernel_rfl)
      (x := ([.lit (.string []), .lit (.int .i64 0), .lit (.string [])], [], [])) (by kernel_rfl) rfl (by kernel_rfl)) ?_
  intro W base args ds gs before hval0 hW _ hk _
  have hval : ∀ (j : Nat) t v, Tryz.f8.params[j]? = some t → args[j]? = some v → Value.okWide Tryz.prog W .any base t v := hval0
  have hW' := hW
  obtain ⟨p, q, hA0, hV, rfl, hfz, hnd⟩ := hW
  have hA : DataW.TrodAll enc Tryz.prog W 0 (fun _ => true) true Tryz.f8.params.toList args.toList ds p := hA0
  rw [Tryz.params8] at hA hval
  obtain ⟨v0, v1, v2, d0, d1, d2, p0, p1, p2, rfl, rfl, rfl, h0, h1, h2⟩ := trodAll_three hA
  obtain ⟨rfl, rfl⟩ := trodVars_none hV
  obtain ⟨x0, rfl, rfl, rfl, sx0⟩ := open_string Tryz.underlying9 (hval 0 9 v0 rfl rfl) h0
  obtain ⟨x1, rfl, rfl, rfl, wx1⟩ := open_int Tryz.underlying3 (hval 1 3 v1 rfl rfl) h1
  obtain ⟨x2, rfl, rfl, rfl, sx2⟩ := open_string Tryz.underlying9 (hval 2 9 v2 rfl rfl) h2
  clear hA0 hval0
  have hb : Rows.uptoBulkAll ([.lit (.string x0.data.toList), .lit (.int .i64 x1), .lit (.string x2.data.toList)] : List (DataW H)) ≤ 1048576 := by
    simp only [List.append_nil] at hk
    exact of_decide_eq_true hk
  have b0 : x0.data.toList.length ≤ 1048576 := by
    simp only [Rows.uptoBulkAll, Rows.uptoBulk] at hb
    omega
  have b2 : x2.data.toList.length ≤ 1048576 := by
    simp only [Rows.uptoBulkAll, Rows.uptoBulk] at hb
    omega
  refine (autoShort_any x0.data.toList x1 x2.data.toList W (by omega) (fit_of_wf wx1) (by omega)).mono fun e W' ⟨he, bel⟩ => ?_
  subst he
  exact ⟨_, rfl, _, _, _, [], _, [], hW', trodAll_mk1 (shut_bool Tryz.underlying4 _), trodAll_mk3 (shut_string Tryz.underlying9 sx0) (shut_int Tryz.underlying3 wx1) (shut_string Tryz.underlying9 sx2), rfl, bel.frame _, fun h => by cases h⟩

theorem said : Rows.AutoShortUptoSaid :=
  OpenClaim.holds_of_cond 8 Tryz.f8 rfl rfl rfl rfl rfl rfl rfl ⟨rfl, rfl, rfl, rfl, rfl⟩ rfl rfl rfl rfl rfl (by kernel_rfl) Tryz.func8 (by kernel_rfl)
    (of_decide_eq_true (by kernel_rfl)) (by unfold Func.isWrapper; rw [if_neg (of_decide_eq_false (by kernel_rfl))]; exact ⟨rfl, rfl⟩)
    (fun os started H enc _ F => lifted os started H enc F)
end Go.Proofs.YtdgoilkgplnhfaaGreat.autoShortDone
namespace Go.Proofs.YtdgoilkgplnhfaaGreat
/-- THE STATEMENT. -/
theorem autoShortUpto_said : Rows.AutoShortUptoSaid := autoShortDone.said
#print axioms autoShortUpto_said
end Go.Proofs.YtdgoilkgplnhfaaGreat
