/-
  OrderSays: whatever it is given, it answers true, and what it was given reads as it did. Conditions: the form's own (each slice takes at most what a process can address).
-/
import Derived.Test.YtnddhkhmbjeefaaRows
import Derived.Test.YtnddhkhmbjeefaaP54
import Derived.Test.YtnddhkhmbjeefaaP55
import Derived.ChangeSame
import Derived.JoinedOf
import Derived.WalkKit
import Derived.ProofKit
import Derived.OpenShut
import Derived.Carry
import Derived.SizedLaws
import Derived.Stop.Joined
namespace Go.Proofs.Ytnddhkhmbjeefaa.orderSaysDone
open Go.ChangeShapes Go.WideShapes Go.ChangeAt Go.RowKit

theorem own : ownKnob Try.prog.godebug = none := by kernel_rfl
theorem laidOut : laidOutB Try.prog = true := by kernel_rfl

set_option maxRecDepth 100000 in
theorem lifted (os : Os) (started : os.Started) (H : Type) (enc : TypeId × Value → H) :
    ReturnsInHanded {} Try.checked os 5 .any (Rows.orderSaysSpec.pre6 enc Try.prog Try.f5 Rows.orderSaysRow.domain false)
      (Rows.orderSaysSpec.post enc Try.prog Try.f5 false true false false) := by
  refine returnsInHanded_of_change_sized (C := Try.checked) own started (by kernel_rfl) Try.func5
    (ChangeSpec.witness6 (enc := enc) (C := Try.checked) false ⟨#[], #[.agg #[.slice none 0 0, .slice none 0 0, .slice none 0 0], .slice none 0 0, .slice none 0 0], []⟩ 8 (by kernel_rfl) (by kernel_rfl) (by kernel_rfl) (by kernel_rfl)) ?_
  intro W base args ds gs before hval0 hW _ hsz0 _
  have hval : ∀ (j : Nat) t v, Try.f5.params[j]? = some t → args[j]? = some v → Value.okWide Try.prog W .any base t v := hval0
  have hsz : (DataW.weightsEach Try.prog (Try.f5.params.toList ++ Rows.orderSaysSpec.plain.varTypes Try.prog) (ds ++ gs)).all (· ≤ reachBytes) = true := hsz0
  have hW' := hW
  obtain ⟨p, q, hA0, hV, rfl, hfz, hnd⟩ := hW
  have hA : DataW.TrodAll enc Try.prog W 0 (fun _ => true) true Try.f5.params.toList args.toList ds p := hA0
  rw [Try.params5] at hA hval hsz
  obtain ⟨v0, v1, v2, d0, d1, d2, p0, p1, p2, rfl, rfl, rfl, h0, h1, h2⟩ := trodAll_three hA
  obtain ⟨rfl, rfl⟩ := trodVars_none hV
  obtain ⟨a1, len1, cap1, rfl⟩ := okWide_slice Try.underlying22 (hval 1 22 v1 rfl rfl)
  obtain ⟨a2, len2, cap2, rfl⟩ := okWide_slice Try.underlying47 (hval 2 47 v2 rfl rfl)
  have k0 := h0
  have k1 := h1
  have k2 := h2
  have lt0 : ∀ x ∈ p0, x.block < W.heap.size := by obtain ⟨m, hm⟩ := k0; exact DataW.trod_lt m _ _ _ hm
  have lt1 : ∀ x ∈ p1, x.block < W.heap.size := by obtain ⟨m, hm⟩ := k1; exact DataW.trod_lt m _ _ _ hm
  have lt2 : ∀ x ∈ p2, x.block < W.heap.size := by obtain ⟨m, hm⟩ := k2; exact DataW.trod_lt m _ _ _ hm
  have bd : ∀ (j : Nat) (t : TypeId) d, ([25, 22, 47] : List TypeId)[j]? = some t → ([d0, d1, d2] : List (DataW H))[j]? = some d → Bnd false t d := fun j t d e1 e2 => by
    unfold Bnd
    simp only [Bool.false_eq_true, if_false]
    exact fun n hn => by simpa using List.all_eq_true.1 hsz _ (DataW.weights_mem_each (j := j) (t := t) e1 e2 n hn)
  obtain ⟨ao, A, c1, no, Ns, c2, ro, Rt, c3, rfl, mA⟩ := made_open (hval 0 25 v0 rfl rfl) h0 (bd 0 25 d0 rfl rfl)
  obtain ⟨B, hB1, zB, fB, lB⟩ : ∃ L : List Int, L.length = len1 ∧ ZAt W a1 L ∧ (∀ k ∈ L, Fit k) ∧ len1 ≤ 17592186043904 := by
    obtain ⟨fuel, hf⟩ := h1
    exact ints_open (up := false) hf (bd 1 22 d1 rfl rfl)
  obtain ⟨T, hT1, lT, sT⟩ : ∃ S : List QZ, S.length = len2 ∧ len2 ≤ 17592186043904 ∧ QtAt W a2 S := by
    obtain ⟨fuel, hf⟩ := h2
    exact points_open hf (bd 2 47 d2 rfl rfl)
  subst hB1 hT1
  clear hA0 hval0
  refine (orderSays_any c1 c2 c3 cap1 cap2 mA zB fB (by omega) sT (by omega)).mono fun e W' ⟨he, bel⟩ => ?_
  subst he
  exact ⟨_, rfl, _, _, _, [], _, [], hW', trodAll_mk1 (shut_bool Try.underlying4 _), trodAll_mk3 (Below.trod laidOut (by kernel_rfl) (of_decide_eq_true (by kernel_rfl)) k0 bel lt0) (Below.trod laidOut (by kernel_rfl) (of_decide_eq_true (by kernel_rfl)) k1 bel lt1) (Below.trod laidOut (by kernel_rfl) (of_decide_eq_true (by kernel_rfl)) k2 bel lt2), rfl, bel.frame _, fun h => by cases h⟩

theorem said : Rows.OrderSaysSaid :=
  OpenClaim.holds_of_wide 5 Try.f5 rfl rfl rfl rfl rfl rfl rfl ⟨rfl, rfl, rfl, rfl, rfl⟩ rfl rfl rfl rfl rfl (by kernel_rfl) Try.func5 (by kernel_rfl)
    (of_decide_eq_true (by kernel_rfl)) (by unfold Func.isWrapper; rw [if_neg (of_decide_eq_false (by kernel_rfl))]; exact ⟨rfl, rfl⟩)
    (fun os started H enc _ => lifted os started H enc)
end Go.Proofs.Ytnddhkhmbjeefaa.orderSaysDone
namespace Go.Proofs.Ytnddhkhmbjeefaa
/-- THE STATEMENT. -/
theorem orderSays_said : Rows.OrderSaysSaid := orderSaysDone.said
#print axioms orderSays_said
end Go.Proofs.Ytnddhkhmbjeefaa
