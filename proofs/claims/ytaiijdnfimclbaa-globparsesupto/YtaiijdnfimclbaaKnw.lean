/-
  The statements' known, walked. No condition.
-/
import Derived.Test.YtaiijdnfimclbaaPrt
import Derived.Test.YtaiijdnfimclbaaMMat
namespace Go.Proofs.Ytaiijdnfimclbaa
open Go.RowKit Go.Lib

def s0 : By := [91, 97, 45, 99, 120, 92, 45, 93, 42, 63]
def L0 : List Pc := [⟨3, 0, false, [(45, 45), (97, 99), (120, 120)]⟩, ⟨4, 0, false, []⟩, ⟨2, 0, false, []⟩]
set_option maxRecDepth 100000 in
theorem par0 : parL s0 = .ok L0 := by kernel_rfl
set_option maxRecDepth 100000 in
theorem par1 : parL [91, 98, 45, 97, 93] = .error [97, 93] := by kernel_rfl
set_option maxRecDepth 100000 in
theorem prt0 : prT L0 = [91, 92, 45, 97, 45, 99, 120, 93, 42, 63] := by kernel_rfl
set_option maxRecDepth 100000 in
theorem mat0 : mtF L0 [45, 47] L0.length = false := by kernel_rfl
set_option maxRecDepth 100000 in
theorem mat1 : mtF L0 [45, 97, 98] L0.length = true := by kernel_rfl
theorem rt0 : Rt L0 := by
  refine ⟨by decide, fun p hp => ?_, fun i hi => ?_⟩
  · simp only [L0, List.mem_cons, List.not_mem_nil, or_false] at hp
    rcases hp with rfl | rfl | rfl
    · refine Rp_set.2 ⟨rfl, ⟨?_, by decide⟩, by decide, ?_⟩
      · intro s hs
        simp only [List.mem_cons, List.not_mem_nil, or_false] at hs
        rcases hs with rfl | rfl | rfl <;> (unfold Bnd; decide)
      · intro s hs
        simp only [List.mem_cons, List.not_mem_nil, or_false] at hs
        rcases hs with rfl | rfl | rfl <;> decide
    · exact (Rp_plain (by decide)).2 ⟨rfl, rfl, rfl⟩
    · exact (Rp_plain (by decide)).2 ⟨rfl, rfl, rfl⟩
  · match i, hi with
    | 0, _ => decide
    | 1, _ => decide
    | n + 2, h => exact absurd (show n + 2 + 1 < 3 from h) (by omega)
theorem PaIs.ok {s : By} {base : Nat} {x : Except By (List Pc)} {L : List Pc} {e : Ending} {w' : World} (h : PaIs s base x e w') (hx : x = .ok L) : ∃ v D, e = .returned (.tuple #[v, .int .i64 0, .int .i64 0]) ∧ OwnP w' base v D ∧ D.map PD.p = L := by subst hx; exact h
theorem PaIs.err {s : By} {base : Nat} {x : Except By (List Pc)} {t : By} {e : Ending} {w' : World} (h : PaIs s base x e w') (hx : x = .error t) : e = .returned (.tuple #[.slice none 0 0, .int .i64 50, .int .i64 ((s.length - t.length : Nat) : Int)]) ∧ t.length ≤ s.length := by subst hx; exact h
set_option maxRecDepth 100000 in
set_option maxHeartbeats 4000000 in
theorem known_any (w : World) : Calls Try.prog 9 #[] w fun e w' => e = .returned (.bool true) ∧ Below w.heap.size w w' := by
  go_enter Try.func9, Try.ntmps9
  go_wp2_with (fail)
  refine (parse_any s0 w (by decide)).mono ?_
  rintro e w1 ⟨h1, x1⟩
  obtain ⟨v1, D, rfl, o1, hD⟩ := h1.ok par0
  obtain ⟨ao, cap, rfl, _, hat⟩ := o1.at
  have hD3 : D.length = 3 := by have := congrArg List.length hD; simpa [L0] using this
  have X1 := hide x1
  have HLEN : Hid (∀ d ∈ D, d.p.set.length ≤ 4294967296) := fun d hd => by
    have hm : d.p ∈ L0 := by rw [← hD]; exact List.mem_map.2 ⟨d, hd, rfl⟩
    simp only [L0, List.mem_cons, List.not_mem_nil, or_false] at hm
    rcases hm with h | h | h <;> (rw [h]; decide)
  have HPR := hide (fun W (x : Below w1.heap.size w1 W) => print_any ao cap D W HLEN.out (hat.below x))
  have HMT := hide (fun s W (hs : s.length ≤ 140737488351232) (x : Below w1.heap.size w1 W) => match_any ao cap D s W hs (fun d hd => by have := HLEN.out d hd; omega) (hat.below x))
  rw [hD, hD3] at HPR HMT
  rw [hD3]
  clear h1 x1 o1 hat hD hD3 HLEN
  go_wp2_with (fail)
  refine (HPR.out _ (Below.refl _ _)).mono ?_
  rintro e w2 ⟨h2, x2⟩
  have X2 := hide x2
  rcases h2 with ⟨_, rfl⟩ | ⟨h2, _⟩
  · rw [prt0]
    clear x2
    go_wp2_with (fail)
    refine (HMT.out [45, 47] _ (by decide) X2.out).mono ?_
    rintro e w3 ⟨h3, x3⟩
    have X3 := hide (bt X2.out x3 (Nat.le_refl _))
    rcases h3 with ⟨_, rfl⟩ | ⟨h3, _⟩
    · rw [mat0]
      clear x3
      go_wp2_with (fail)
      refine (HMT.out [45, 97, 98] _ (by decide) X3.out).mono ?_
      rintro e w4 ⟨h4, x4⟩
      have X4 := hide (bt X3.out x4 (Nat.le_refl _))
      rcases h4 with ⟨_, rfl⟩ | ⟨h4, _⟩
      · rw [mat1]
        clear x4
        go_wp2_with (fail)
        refine (parse_any [91, 98, 45, 97, 93] w4 (by decide)).mono ?_
        rintro e w5 ⟨h5, x5⟩
        obtain ⟨rfl, _⟩ := h5.err par1
        have X5 := hide (bt X1.out (bt X4.out x5 (Nat.le_refl _)) (Nat.le_refl _))
        clear x5 h5
        go_wp2
        go_ret
        exact ⟨rfl, X5.out⟩
      · exact absurd rt0 h4
    · exact absurd rt0 h3
  · exact absurd rt0 h2
end Go.Proofs.Ytaiijdnfimclbaa
