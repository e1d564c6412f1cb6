/-
  AutoPatterns, up to the bound: whatever it is given of bulk at most 1048576, it answers true, and what it was given reads as it did. Conditions: the statement's own bound.
-/
import Derived.Test.YtdgoilkgplnhfaaGreatRows
import Derived.Test.YtdgoilkgplnhfaaGreatB50
import Derived.WalkKit
import Derived.ProofKit
import Derived.OpenShut
import Derived.ShutString
import Derived.SliceStrings
import Derived.Carry
import Derived.JoinedCond
namespace Go.Proofs.YtdgoilkgplnhfaaGreat.autoPatternsDone
open Go.ChangeShapes Go.WideShapes Go.ChangeAt Go.RowKit
open Go.ChangeMaps (open_string shut_string)

theorem own : ownKnob Tryz.prog.godebug = none := by kernel_rfl
theorem laidOut : laidOutB Tryz.prog = true := by kernel_rfl
theorem cells9 : Tryz.prog.cellsOf 9 = 1 := by kernel_rfl
theorem bulk_strs {H : Type} : ∀ ss : List ByteArray, ss.length ≤ Rows.uptoBulkAll (strs (H := H) ss) ∧ ∀ s ∈ ss, s.data.toList.length ≤ Rows.uptoBulkAll (strs (H := H) ss)
  | [] => ⟨Nat.le_refl _, fun s hs => by cases hs⟩
  | t :: ss => by
    obtain ⟨h1, h2⟩ := bulk_strs (H := H) ss
    have e : Rows.uptoBulkAll (strs (H := H) (t :: ss)) = (t.data.toList.length + 1) + Rows.uptoBulkAll (strs (H := H) ss) := by
      show Rows.uptoBulkAll ((.lit (.string t.data.toList) : DataW H) :: strs ss) = _
      simp only [Rows.uptoBulkAll, Rows.uptoBulk]
    rw [e]
    refine ⟨by rw [List.length_cons]; omega, fun s hs => ?_⟩
    rcases List.mem_cons.1 hs with rfl | hs
    · omega
    · have := h2 s hs; omega
/-- Texts that came in. -/
theorem texts_open {H : Type} {enc : TypeId × Value → H} {W : World} {fuel : Nat} {a0 : Option Addr} {len cap : Nat} {d : DataW H} {p : List MemPlace}
    (hf : DataW.trod enc Tryz.prog W 0 (fun _ => true) true fuel 50 [.slice a0 len cap] = some (d, p)) (hb : Rows.uptoBulk d ≤ 1048576) : ∃ T : List By, T.length = len ∧ len ≤ 1048576 ∧ (∀ x ∈ T, x.length ≤ 1048576) ∧ SAt W a0 T := by
  rcases open_strings Tryz.underlying50 Tryz.underlying9 cells9 hf with ⟨hcs, _⟩ | ⟨a, l, c, ss, hcs, _, hl, hm, hz, hx, hcell, hsz⟩
  · injection hcs with hv
    injection hv with e1 e2 e3
    subst e2 e3
    exact ⟨[], rfl, by omega, fun x hx => (by cases hx), .inl rfl⟩
  · injection hcs with hv
    injection hv with e1 e2 e3
    subst e1 e2 e3
    simp only [if_true] at hz
    simp only [Prod.mk.injEq] at hx
    obtain ⟨hd, hp⟩ := hx
    subst hd
    simp only [Rows.uptoBulk] at hb
    obtain ⟨b1, b2⟩ := bulk_strs (H := H) (ss.take len)
    have hlt : (ss.take len).length = len := by rw [List.length_take]; omega
    refine ⟨(ss.take len).map (fun s => s.data.toList), by rw [List.length_map, hlt], by omega, fun x hx => ?_, ?_⟩
    · obtain ⟨s, hs, rfl⟩ := List.mem_map.1 hx
      have := b2 s hs
      omega
    · by_cases h0 : len = 0
      · subst h0
        exact .inl (by simp)
      obtain ⟨b, off, spot⟩ := a
      have hz0 := hcell 0 (by omega)
      have hspot : spot = none := by simpa [Addr.add] using World.cell?_spot hz0
      subst hspot
      refine .inr ⟨b, off, rfl, World.block_lt_of_cell? W _ (by simpa [Addr.add] using hz0), fun i hi => ?_⟩
      rw [List.length_map, hlt] at hi
      have h1 := hcell i (by omega)
      rw [addr_add] at h1
      rw [h1]
      have hi2 : i < ss.length := by omega
      simp [List.getD_eq_getElem?_getD, hi2]

set_option maxRecDepth 100000 in
theorem lifted (os : Os) (started : os.Started) (H : Type) (enc : TypeId × Value → H) (F : Stop.Interp) :
    ReturnsInHanded {} Tryz.checked os 7 .any ((Rows.OpenSpec.upto Rows.autoPatternsSpec).pre6 enc Tryz.prog Tryz.f7 Rows.autoPatternsUptoRow.domain false) (((Rows.OpenSpec.upto Rows.autoPatternsSpec).at F).post enc Tryz.prog Tryz.f7 false true false false) := by
  refine returnsInHanded_of_cond (C := Tryz.checked) (s := Rows.OpenSpec.upto Rows.autoPatternsSpec) (k := Rows.uptoSmall) rfl own started (by kernel_rfl) Tryz.func7
    (OpenSpec.witness (enc := enc) (C := Tryz.checked) (s := Rows.OpenSpec.upto Rows.autoPatternsSpec) (k := Rows.uptoSmall) rfl false ⟨#[], #[.string .empty, .string .empty, .slice none 0 0], []⟩ 8 (by kernel_rfl) (by kernel_rfl) (by kernel_rfl)
      (x := ([.lit (.string []), .lit (.string []), .nil], [], [])) (by kernel_rfl) rfl (by kernel_rfl)) ?_
  intro W base args ds gs before hval0 hW _ hk _
  have hval : ∀ (j : Nat) t v, Tryz.f7.params[j]? = some t → args[j]? = some v → Value.okWide Tryz.prog W .any base t v := hval0
  have hW' := hW
  obtain ⟨p, q, hA0, hV, rfl, hfz, hnd⟩ := hW
  have hA : DataW.TrodAll enc Tryz.prog W 0 (fun _ => true) true Tryz.f7.params.toList args.toList ds p := hA0
  rw [Tryz.params7] at hA hval
  obtain ⟨v0, v2, v1, d0, d2, d1, p0, p2, p1, rfl, rfl, rfl, h0, h2, h1⟩ := trodAll_three hA
  obtain ⟨rfl, rfl⟩ := trodVars_none hV
  obtain ⟨x0, rfl, rfl, rfl, sx0⟩ := open_string Tryz.underlying9 (hval 0 9 v0 rfl rfl) h0
  obtain ⟨x2, rfl, rfl, rfl, sx2⟩ := open_string Tryz.underlying9 (hval 1 9 v2 rfl rfl) h2
  have hb : Rows.uptoBulkAll ([.lit (.string x0.data.toList), .lit (.string x2.data.toList), d1] : List (DataW H)) ≤ 1048576 := by
    simp only [List.append_nil] at hk
    exact of_decide_eq_true hk
  have b0 : x0.data.toList.length ≤ 1048576 := by
    simp only [Rows.uptoBulkAll, Rows.uptoBulk] at hb
    omega
  have b2 : x2.data.toList.length ≤ 1048576 := by
    simp only [Rows.uptoBulkAll, Rows.uptoBulk] at hb
    omega
  have b1 : Rows.uptoBulk d1 ≤ 1048576 := by
    simp only [Rows.uptoBulkAll] at hb
    omega
  obtain ⟨a1, len1, cap1, rfl⟩ := okWide_slice Tryz.underlying50 (hval 2 50 v1 rfl rfl)
  have k1 := h1
  have lt1 : ∀ x ∈ p1, x.block < W.heap.size := by obtain ⟨m, hm⟩ := k1; exact DataW.trod_lt m _ _ _ hm
  obtain ⟨T, hT0, hl1, hTs, sT⟩ : ∃ T : List By, T.length = len1 ∧ len1 ≤ 1048576 ∧ (∀ x ∈ T, x.length ≤ 1048576) ∧ SAt W a1 T := by
    obtain ⟨fuel, hf⟩ := h1
    exact texts_open hf b1
  subst hT0
  clear hA0 hval0
  refine (autoPatterns_any x0.data.toList x2.data.toList a1 cap1 T W (by omega) (by omega) (by omega) (fun x hx => by have := hTs x hx; omega) sT).mono fun e W' ⟨he, bel⟩ => ?_
  subst he
  exact ⟨_, rfl, _, _, _, [], _, [], hW', trodAll_mk1 (shut_bool Tryz.underlying4 _), trodAll_mk3 (shut_string Tryz.underlying9 sx0) (shut_string Tryz.underlying9 sx2) (Below.trod laidOut (by kernel_rfl) (of_decide_eq_true (by kernel_rfl)) k1 bel lt1), rfl, bel.frame _, fun h => by cases h⟩

theorem said : Rows.AutoPatternsUptoSaid :=
  OpenClaim.holds_of_cond 7 Tryz.f7 rfl rfl rfl rfl rfl rfl rfl ⟨rfl, rfl, rfl, rfl, rfl⟩ rfl rfl rfl rfl rfl (by kernel_rfl) Tryz.func7 (by kernel_rfl)
    (of_decide_eq_true (by kernel_rfl)) (by unfold Func.isWrapper; rw [if_neg (of_decide_eq_false (by kernel_rfl))]; exact ⟨rfl, rfl⟩)
    (fun os started H enc _ F => lifted os started H enc F)
end Go.Proofs.YtdgoilkgplnhfaaGreat.autoPatternsDone
namespace Go.Proofs.YtdgoilkgplnhfaaGreat
/-- THE STATEMENT. -/
theorem autoPatternsUpto_said : Rows.AutoPatternsUptoSaid := autoPatternsDone.said
#print axioms autoPatternsUpto_said
end Go.Proofs.YtdgoilkgplnhfaaGreat
