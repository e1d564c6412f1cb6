/-
  OrderBests: whatever it is given, it answers true, and what it was given reads as it did. Conditions: the form's own (each slice takes at most what a process can address).
-/
import Derived.Test.YtnddhkhmbjeefaaRows
import Derived.ChangeSame
import Derived.JoinedOf
import Derived.WalkKit
import Derived.ProofKit
import Derived.OpenShut
import Derived.Carry
import Derived.SizedLaws
import Derived.Stop.Joined
import Derived.Test.YtnddhkhmbjeefaaB52
namespace Go.Proofs.Ytnddhkhmbjeefaa.orderBestsDone
open Go.ChangeShapes Go.WideShapes Go.ChangeAt Go.RowKit

theorem own : ownKnob Try.prog.godebug = none := by kernel_rfl
theorem laidOut : laidOutB Try.prog = true := by kernel_rfl

set_option maxRecDepth 100000 in
theorem lifted (os : Os) (started : os.Started) (H : Type) (enc : TypeId × Value → H) :
    ReturnsInHanded {} Try.checked os 4 .any (Rows.orderBestsSpec.pre6 enc Try.prog Try.f4 Rows.orderBestsRow.domain false)
      (Rows.orderBestsSpec.post enc Try.prog Try.f4 false true false false) := by
  refine returnsInHanded_of_change_sized (C := Try.checked) own started (by kernel_rfl) Try.func4
    (ChangeSpec.witness6 (enc := enc) (C := Try.checked) false ⟨#[], #[.agg #[.slice none 0 0, .slice none 0 0, .slice none 0 0], .int .i64 0, .slice none 0 0], []⟩ 8 (by kernel_rfl) (by kernel_rfl) (by kernel_rfl) (by kernel_rfl)) ?_
  intro W base args ds gs before hval0 hW _ hsz0 _
  have hval : ∀ (j : Nat) t v, Try.f4.params[j]? = some t → args[j]? = some v → Value.okWide Try.prog W .any base t v := hval0
  have hsz : (DataW.weightsEach Try.prog (Try.f4.params.toList ++ Rows.orderBestsSpec.plain.varTypes Try.prog) (ds ++ gs)).all (· ≤ reachBytes) = true := hsz0
  have hW' := hW
  obtain ⟨p, q, hA0, hV, rfl, hfz, hnd⟩ := hW
  have hA : DataW.TrodAll enc Try.prog W 0 (fun _ => true) true Try.f4.params.toList args.toList ds p := hA0
  rw [Try.params4] at hA hval hsz
  obtain ⟨v0, v1, v2, d0, d1, d2, p0, p1, p2, rfl, rfl, rfl, h0, h1, h2⟩ := trodAll_three hA
  obtain ⟨rfl, rfl⟩ := trodVars_none hV
  obtain ⟨a2, len2, cap2, rfl⟩ := okWide_slice Try.underlying22 (hval 2 22 v2 rfl rfl)
  have k0 := h0
  have k2 := h2
  have lt0 : ∀ x ∈ p0, x.block < W.heap.size := by obtain ⟨m, hm⟩ := k0; exact DataW.trod_lt m _ _ _ hm
  have lt2 : ∀ x ∈ p2, x.block < W.heap.size := by obtain ⟨m, hm⟩ := k2; exact DataW.trod_lt m _ _ _ hm
  have bd : ∀ (j : Nat) (t : TypeId) d, ([25, 3, 22] : List TypeId)[j]? = some t → ([d0, d1, d2] : List (DataW H))[j]? = some d → Bnd false t d := fun j t d e1 e2 => by
    unfold Bnd
    simp only [Bool.false_eq_true, if_false]
    exact fun n hn => by simpa using List.all_eq_true.1 hsz _ (DataW.weights_mem_each (j := j) (t := t) e1 e2 n hn)
  obtain ⟨ao, A, c1, no, Ns, c2, ro, Rt, c3, rfl, mA⟩ := made_open (hval 0 25 v0 rfl rfl) h0 (bd 0 25 d0 rfl rfl)
  obtain ⟨x1, rfl, rfl, rfl, wx1⟩ := open_int Try.underlying3 (hval 1 3 v1 rfl rfl) h1
  obtain ⟨B2, hB2, zB2, fB2, lB2⟩ : ∃ L : List Int, L.length = len2 ∧ ZAt W a2 L ∧ (∀ k ∈ L, Fit k) ∧ len2 ≤ 17592186043904 := by
    obtain ⟨fuel, hf⟩ := h2
    exact ints_open (up := false) hf (bd 2 22 d2 rfl rfl)
  subst hB2
  clear hA0 hval0
  refine (orderBests_any c1 c2 c3 cap2 mA (fit_wf wx1) zB2 (by omega)).mono fun e W' ⟨he, bel⟩ => ?_
  subst he
  exact ⟨_, rfl, _, _, _, [], _, [], hW', trodAll_mk1 (shut_bool Try.underlying4 _), trodAll_mk3 (Below.trod laidOut (by kernel_rfl) (of_decide_eq_true (by kernel_rfl)) k0 bel lt0) (shut_int Try.underlying3 wx1) (Below.trod laidOut (by kernel_rfl) (of_decide_eq_true (by kernel_rfl)) k2 bel lt2), rfl, bel.frame _, fun h => by cases h⟩

theorem said : Rows.OrderBestsSaid :=
  OpenClaim.holds_of_wide 4 Try.f4 rfl rfl rfl rfl rfl rfl rfl ⟨rfl, rfl, rfl, rfl, rfl⟩ rfl rfl rfl rfl rfl (by kernel_rfl) Try.func4 (by kernel_rfl)
    (of_decide_eq_true (by kernel_rfl)) (by unfold Func.isWrapper; rw [if_neg (of_decide_eq_false (by kernel_rfl))]; exact ⟨rfl, rfl⟩)
    (fun os started H enc _ => lifted os started H enc)
end Go.Proofs.Ytnddhkhmbjeefaa.orderBestsDone
namespace Go.Proofs.Ytnddhkhmbjeefaa
/-- THE STATEMENT. -/
theorem orderBests_said : Rows.OrderBestsSaid := orderBestsDone.said
#print axioms orderBests_said
end Go.Proofs.Ytnddhkhmbjeefaa
