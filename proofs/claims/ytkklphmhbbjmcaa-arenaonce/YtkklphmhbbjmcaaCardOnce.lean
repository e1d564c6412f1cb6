/-
  ArenaOnce: whatever it is given, it answers true, and what it was given reads as it did. Conditions: the form's own (each slice takes at most what a process can address).
-/
import Derived.Test.YtkklphmhbbjmcaaRows
import Derived.Test.YtkklphmhbbjmcaaOnc
import Derived.Test.YtkklphmhbbjmcaaAr2
import Derived.ChangeSame
import Derived.JoinedOf
import Derived.WalkKit
import Derived.ProofKit
import Derived.OpenShut
import Derived.Carry
import Derived.SizedLaws
import Derived.Stop.Joined
namespace Go.Proofs.Ytkklphmhbbjmcaa.arenaOnceDone
open Go.ChangeShapes Go.WideShapes Go.ChangeAt Go.RowKit

theorem own : ownKnob Try.prog.godebug = none := by kernel_rfl
theorem laidOut : laidOutB Try.prog = true := by kernel_rfl

set_option maxRecDepth 100000 in
theorem lifted (os : Os) (started : os.Started) (H : Type) (enc : TypeId × Value → H) :
    ReturnsInHanded {} Try.checked os 4 .any (Rows.arenaOnceSpec.pre6 enc Try.prog Try.f4 Rows.arenaOnceRow.domain false)
      (Rows.arenaOnceSpec.post enc Try.prog Try.f4 false true false false) := by
  refine returnsInHanded_of_change_sized (C := Try.checked) own started (by kernel_rfl) Try.func4
    (ChangeSpec.witness6 (enc := enc) (C := Try.checked) false ⟨#[], #[.slice none 0 0, .int .i64 0, .slice none 0 0, .slice none 0 0], []⟩ 8 (by kernel_rfl) (by kernel_rfl) (by kernel_rfl) (by kernel_rfl)) ?_
  intro W base args ds gs before hval0 hW _ hsz0 _
  have hval : ∀ (j : Nat) t v, Try.f4.params[j]? = some t → args[j]? = some v → Value.okWide Try.prog W .any base t v := hval0
  have hsz : (DataW.weightsEach Try.prog (Try.f4.params.toList ++ Rows.arenaOnceSpec.plain.varTypes Try.prog) (ds ++ gs)).all (· ≤ reachBytes) = true := hsz0
  have hW' := hW
  obtain ⟨p, q, hA0, hV, rfl, hfz, hnd⟩ := hW
  have hA : DataW.TrodAll enc Try.prog W 0 (fun _ => true) true Try.f4.params.toList args.toList ds p := hA0
  rw [Try.params4] at hA hval hsz
  obtain ⟨v0, v1, v2, v3, d0, d1, d2, d3, p0, p1, p2, p3, rfl, rfl, rfl, h0, h1, h2, h3⟩ := trodAll_four hA
  obtain ⟨rfl, rfl⟩ := trodVars_none hV
  obtain ⟨x1, rfl, rfl, rfl, wx1⟩ := open_int Try.underlying3 (hval 1 3 v1 rfl rfl) h1
  obtain ⟨a0, len0, cap0, rfl⟩ := okWide_slice Try.underlying22 (hval 0 22 v0 rfl rfl)
  obtain ⟨a2, len2, cap2, rfl⟩ := okWide_slice Try.underlying23 (hval 2 23 v2 rfl rfl)
  obtain ⟨a3, len3, cap3, rfl⟩ := okWide_slice Try.underlying36 (hval 3 36 v3 rfl rfl)
  have k0 := h0
  have k2 := h2
  have k3 := h3
  have lt0 : ∀ x ∈ p0, x.block < W.heap.size := by obtain ⟨m, hm⟩ := k0; exact DataW.trod_lt m _ _ _ hm
  have lt2 : ∀ x ∈ p2, x.block < W.heap.size := by obtain ⟨m, hm⟩ := k2; exact DataW.trod_lt m _ _ _ hm
  have lt3 : ∀ x ∈ p3, x.block < W.heap.size := by obtain ⟨m, hm⟩ := k3; exact DataW.trod_lt m _ _ _ hm
  have b0 : Bnd false 22 d0 := by
    unfold Bnd
    simp only [Bool.false_eq_true, if_false]
    exact fun n hn => by simpa using List.all_eq_true.1 hsz _ (DataW.weights_mem_each (j := 0) (t := 22) rfl rfl n hn)
  have b2 : Bnd false 23 d2 := by
    unfold Bnd
    simp only [Bool.false_eq_true, if_false]
    exact fun n hn => by simpa using List.all_eq_true.1 hsz _ (DataW.weights_mem_each (j := 2) (t := 23) rfl rfl n hn)
  have b3 : Bnd false 36 d3 := by
    unfold Bnd
    simp only [Bool.false_eq_true, if_false]
    exact fun n hn => by simpa using List.all_eq_true.1 hsz _ (DataW.weights_mem_each (j := 3) (t := 36) rfl rfl n hn)
  obtain ⟨A, hA1, zA, fA, lA⟩ : ∃ L : List Int, L.length = len0 ∧ ZAt W a0 L ∧ (∀ k ∈ L, Fit k) ∧ len0 ≤ 17592186043904 := by
    obtain ⟨fuel, hf⟩ := h0
    exact ints_open (up := false) hf b0
  obtain ⟨T, hT1, lT, sT⟩ : ∃ S : List OpZ, S.length = len2 ∧ (len2 ≤ if false then 1048576 else 2932031007317) ∧ OpAt W a2 S := by
    obtain ⟨fuel, hf⟩ := h2
    exact script_open (up := false) hf b2
  obtain ⟨Q, hQ1, lQ, sQ⟩ : ∃ S : List PZ, S.length = len3 ∧ len3 ≤ 17592186043904 ∧ PtAt W a3 S := by
    obtain ⟨fuel, hf⟩ := h3
    exact points_open hf b3
  simp only [Bool.false_eq_true, if_false] at lT
  subst hA1 hT1 hQ1
  clear hA0 hval0
  refine (once_any a0 a2 a3 cap0 cap2 cap3 A x1 T Q W lA lT lQ zA fA (fit_wf wx1) sT sQ).mono fun e W' ⟨he, bel⟩ => ?_
  subst he
  exact ⟨_, rfl, _, _, _, [], _, [], hW', trodAll_mk1 (shut_bool Try.underlying4 _), trodAll_mk4 (Below.trod laidOut (by kernel_rfl) (of_decide_eq_true (by kernel_rfl)) k0 bel lt0) (shut_int Try.underlying3 wx1) (Below.trod laidOut (by kernel_rfl) (of_decide_eq_true (by kernel_rfl)) k2 bel lt2) (Below.trod laidOut (by kernel_rfl) (of_decide_eq_true (by kernel_rfl)) k3 bel lt3), rfl, bel.frame _, fun h => by cases h⟩

theorem said : Rows.ArenaOnceSaid :=
  OpenClaim.holds_of_wide 4 Try.f4 rfl rfl rfl rfl rfl rfl rfl ⟨rfl, rfl, rfl, rfl, rfl⟩ rfl rfl rfl rfl rfl (by kernel_rfl) Try.func4 (by kernel_rfl)
    (of_decide_eq_true (by kernel_rfl)) (by unfold Func.isWrapper; rw [if_neg (of_decide_eq_false (by kernel_rfl))]; exact ⟨rfl, rfl⟩)
    (fun os started H enc _ => lifted os started H enc)
end Go.Proofs.Ytkklphmhbbjmcaa.arenaOnceDone
namespace Go.Proofs.Ytkklphmhbbjmcaa
/-- THE STATEMENT. -/
theorem arenaOnce_said : Rows.ArenaOnceSaid := arenaOnceDone.said
#print axioms arenaOnce_said
end Go.Proofs.Ytkklphmhbbjmcaa
