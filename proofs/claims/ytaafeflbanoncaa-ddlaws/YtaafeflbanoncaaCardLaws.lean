/-
  DdLaws: whatever it is given, it answers true, and what it was given reads as it did. Conditions: the form's own (each slice takes at most what a process can address).
-/
import Derived.Test.YtaafeflbanoncaaRows
import Derived.Test.YtaafeflbanoncaaQ55
import Derived.ChangeSame
import Derived.JoinedOf
import Derived.WalkKit
import Derived.ProofKit
import Derived.OpenShut
import Derived.Carry
import Derived.SizedLaws
import Derived.Stop.Joined
namespace Go.Proofs.Ytaafeflbanoncaa.ddLawsDone
open Go.ChangeShapes Go.WideShapes Go.ChangeAt Go.RowKit

theorem own : ownKnob Try.prog.godebug = none := by kernel_rfl
theorem laidOut : laidOutB Try.prog = true := by kernel_rfl

set_option maxRecDepth 100000 in
theorem lifted (os : Os) (started : os.Started) (H : Type) (enc : TypeId × Value → H) :
    ReturnsInHanded {} Try.checked os 5 .any (Rows.ddLawsSpec.pre6 enc Try.prog Try.f5 Rows.ddLawsRow.domain false)
      (Rows.ddLawsSpec.post enc Try.prog Try.f5 false true false false) := by
  refine returnsInHanded_of_change_sized (C := Try.checked) own started (by kernel_rfl) Try.func5
    (ChangeSpec.witness6 (enc := enc) (C := Try.checked) false ⟨#[], #[.slice none 0 0, .slice none 0 0, .int .i64 0], []⟩ 8 (by kernel_rfl) (by kernel_rfl) (by kernel_rfl) (by kernel_rfl)) ?_
  intro W base args ds gs before hval0 hW _ hsz0 _
  have hval : ∀ (j : Nat) t v, Try.f5.params[j]? = some t → args[j]? = some v → Value.okWide Try.prog W .any base t v := hval0
  have hsz : (DataW.weightsEach Try.prog (Try.f5.params.toList ++ Rows.ddLawsSpec.plain.varTypes Try.prog) (ds ++ gs)).all (· ≤ reachBytes) = true := hsz0
  have hW' := hW
  obtain ⟨p, q, hA0, hV, rfl, hfz, hnd⟩ := hW
  have hA : DataW.TrodAll enc Try.prog W 0 (fun _ => true) true Try.f5.params.toList args.toList ds p := hA0
  rw [Try.params5] at hA hval hsz
  obtain ⟨v0, v1, v2, d0, d1, d2, p0, p1, p2, rfl, rfl, rfl, h0, h1, h2⟩ := trodAll_three hA
  obtain ⟨rfl, rfl⟩ := trodVars_none hV
  obtain ⟨a0, len0, cap0, rfl⟩ := okWide_slice Try.underlying22 (hval 0 22 v0 rfl rfl)
  obtain ⟨a1, len1, cap1, rfl⟩ := okWide_slice Try.underlying23 (hval 1 23 v1 rfl rfl)
  have k0 := h0
  have k1 := h1
  have k2 := h2
  have lt0 : ∀ x ∈ p0, x.block < W.heap.size := by obtain ⟨m, hm⟩ := k0; exact DataW.trod_lt m _ _ _ hm
  have lt1 : ∀ x ∈ p1, x.block < W.heap.size := by obtain ⟨m, hm⟩ := k1; exact DataW.trod_lt m _ _ _ hm
  have lt2 : ∀ x ∈ p2, x.block < W.heap.size := by obtain ⟨m, hm⟩ := k2; exact DataW.trod_lt m _ _ _ hm
  have b0 : Bnd false 22 d0 := by
    unfold Bnd
    simp only [Bool.false_eq_true, if_false]
    exact fun n hn => by simpa using List.all_eq_true.1 hsz _ (DataW.weights_mem_each (j := 0) (t := 22) rfl rfl n hn)
  have b1 : Bnd false 23 d1 := by
    unfold Bnd
    simp only [Bool.false_eq_true, if_false]
    exact fun n hn => by simpa using List.all_eq_true.1 hsz _ (DataW.weights_mem_each (j := 1) (t := 23) rfl rfl n hn)
  obtain ⟨A, hA1, zA, fA, _⟩ : ∃ L : List Int, L.length = len0 ∧ ZAt W a0 L ∧ (∀ k ∈ L, Fit k) ∧ len0 ≤ 17592186043904 := by
    obtain ⟨fuel, hf⟩ := h0
    exact ints_open (up := false) hf b0
  obtain ⟨T, hT1, lT, sT⟩ : ∃ S : List OpX, S.length = len1 ∧ len1 ≤ 2800000000000 ∧ OpAtX W a1 S := by
    obtain ⟨fuel, hf⟩ := h1
    exact script_openX hf b1
  obtain ⟨lev, rfl⟩ := okWide_int Try.underlying3 (hval 2 3 v2 rfl rfl)
  have flev : Fit lev := by
    obtain ⟨fuel, hf⟩ := h2
    obtain ⟨z, e, _, hwf⟩ := DataW.trod_int Try.underlying3 hf
    have e2 : z = lev := by simpa [Value.cells] using e.symm
    rw [← e2]
    exact fit_wf hwf
  subst hA1 hT1
  clear hA0 hval0
  refine (ddLaws_any a0 a1 cap0 cap1 A T lev W lT zA fA sT flev).mono fun e W' ⟨he, bel⟩ => ?_
  subst he
  exact ⟨_, rfl, _, _, _, [], _, [], hW', trodAll_mk1 (shut_bool Try.underlying4 _), trodAll_mk3 (Below.trod laidOut (by kernel_rfl) (of_decide_eq_true (by kernel_rfl)) k0 bel lt0) (Below.trod laidOut (by kernel_rfl) (of_decide_eq_true (by kernel_rfl)) k1 bel lt1) (Below.trod laidOut (by kernel_rfl) (of_decide_eq_true (by kernel_rfl)) k2 bel lt2), rfl, bel.frame _, fun h => by cases h⟩

theorem said : Rows.DdLawsSaid :=
  OpenClaim.holds_of_wide 5 Try.f5 rfl rfl rfl rfl rfl rfl rfl ⟨rfl, rfl, rfl, rfl, rfl⟩ rfl rfl rfl rfl rfl (by kernel_rfl) Try.func5 (by kernel_rfl)
    (of_decide_eq_true (by kernel_rfl)) (by unfold Func.isWrapper; rw [if_neg (of_decide_eq_false (by kernel_rfl))]; exact ⟨rfl, rfl⟩)
    (fun os started H enc _ => lifted os started H enc)
end Go.Proofs.Ytaafeflbanoncaa.ddLawsDone
namespace Go.Proofs.Ytaafeflbanoncaa
/-- THE STATEMENT. -/
theorem ddLaws_said : Rows.DdLawsSaid := ddLawsDone.said
#print axioms ddLaws_said
end Go.Proofs.Ytaafeflbanoncaa
