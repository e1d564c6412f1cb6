/-
  Put by its contract. No condition.
-/
import Derived.Test.YtnfdjbaafiifnaaHv
import Derived.Deep.RegionWith
namespace Go.Proofs.Ytnfdjbaafiifnaa
open Go.RowKit Go.Lib

theorem TrieAt.set {w : World} {b : Nat} {r r' : Value} {t : Tr} (h : w.heap[b]? = some (.cells #[r] 73 (0, 0))) (hn : NodeAt w t r') : TrieAt (w.setCell ⟨b, 0, none⟩ r') t (.pointer (some ⟨b, 0, none⟩)) := by
  refine ⟨b, r', rfl, by rw [block_setCell h 0 r']; rfl, NodeAt.kept (F := fun k => k = b) (Kept.setCell (F := fun k => k = b) (Kept.refl _ _) rfl _) (fun k hk => ?_) hn⟩
  subst hk
  exact ⟨_, 73, _, h, by decide⟩
instance (a k : Int) : Decidable (Pfx a k) := by unfold Pfx; exact inferInstance
set_option maxRecDepth 100000 in
set_option maxHeartbeats 1000000 in
theorem putT_any {t : Tr} {b : Nat} (a k l : Int) (w : World) (h : TrieAt w t (.pointer (some ⟨b, 0, none⟩))) : Calls Try.prog 18 #[.pointer (some ⟨b, 0, none⟩), .agg #[.int .i64 a, .int .i64 k], .int .i64 l] w fun e w' =>
    ((Pfx a k ∧ Lab l) → e = .returned (.int .i64 0) ∧ TrieAt w' (t.put a.toNat k.toNat l) (.pointer (some ⟨b, 0, none⟩))) ∧ (¬ (Pfx a k ∧ Lab l) → e = .returned (.int .i64 1) ∧ TrieAt w' t (.pointer (some ⟨b, 0, none⟩))) ∧ Kept (fun x => x = b) w w' := by
  obtain ⟨b', r, e, h1, h2⟩ := h
  injection e with e; injection e with e; injection e with e; subst e
  have hr := fun w => range_any a k w
  have hl := fun w => isLabel_any l w
  have HT := hide (show TrieAt w t (.pointer (some ⟨b, 0, none⟩)) from ⟨b, r, rfl, h1, h2⟩)
  have H1 := hide h1
  have H2 := hide h2
  have HB := hide (lt_of_block h1)
  clear h1 h2
  by_cases hp : Pfx a k
  · have e3 : pprE a k = 0 := if_pos hp
    simp only [e3] at hr
    by_cases hq : Lab l
    · simp only [decide_eq_true hq] at hl
      obtain ⟨n, m, rfl, rfl, hm, hn, hmod⟩ := hp.nat
      have hww : IntKind.u32.wrap (n : Int) = n := by simp [IntKind.wrap, IntKind.bits, IntKind.signed]; omega
      have HPQ : Hid (Pfx (n : Int) (m : Int) ∧ Lab l) := ⟨hp, hq⟩
      have HPU := hide (fun W (x : Below w.heap.size w W) => put_any l m t r n W hm (by omega) (H2.out.below x))
      clear hp hq e3 hmod
      go_enter Try.func18, Try.ntmps18
      go_wp2_with (first
        | (go_at_call 19; refine (hr _).mono ?_; rintro e w1 ⟨rfl, x1⟩; have X1 := hide x1; clear x1)
        | (go_at_call 25; refine (hl _).mono ?_; rintro e w1 ⟨rfl, hw1⟩; subst hw1))
      have Y1 : Hid (Below w.heap.size w (w1.alloc (.cells #[.int .i64 (rngL n m), .int .i64 (rngH n m)] 58))) := al (bt (al (Below.refl _ _) _) X1.out (Nat.le_refl _)) _
      have Z1 : Hid ((w1.alloc (.cells #[.int .i64 (rngL n m), .int .i64 (rngH n m)] 58)).heap[w.heap.size]? = some (.cells #[.int .i64 n, .int .i64 m] 42 (0, 0))) := by
        unfold Hid
        rw [push_get _ _ (Nat.lt_of_lt_of_le (by simp) X1.out.size), X1.out.block _ (by simp)]
        exact heap_alloc_new _ _
      generalize w1.alloc (.cells #[.int .i64 (rngL n m), .int .i64 (rngH n m)] 58) = W at *
      have B1 := hide ((Y1.out.block b HB.out).trans H1.out)
      have c0 : W.cell? ⟨b, 0, none⟩ = some r := by rw [cell_of_row W b 0 _ _ _ B1.out]; rfl
      have c1 : W.cell? ⟨w.heap.size, 0, none⟩ = some (.int .i64 n) := by rw [cell_of_row W w.heap.size 0 _ _ _ Z1.out]; rfl
      have c2 : W.cell? ⟨w.heap.size, 1, none⟩ = some (.int .i64 m) := by rw [cell_of_row W w.heap.size 1 _ _ _ Z1.out]; rfl
      clear X1 hr hl
      go_region_with (first
        | (go_at_call 36; refine (HPU.out _ Y1.out.drew).mono ?_; rintro e w3 ⟨⟨v3, rfl, n3⟩, x3⟩; have N3 := hide n3; have X3 := hide ((Below.refl _ _).drew.trans x3); have B3 := hide ((X3.out.block b (Nat.lt_of_lt_of_le HB.out Y1.out.size)).trans B1.out); have c3 : w3.cell? ⟨b, 0, none⟩ = some r := (by rw [cell_of_row w3 b 0 _ _ _ B3.out]; rfl); have f3 := frozen_of_row w3 b 0 _ _ B3.out; obtain ⟨bv, _, _, rfl, _⟩ := n3.shape; clear n3 x3))
      all_goals
        have KK := hide (Kept.setCell (F := fun x => x = b) (p := ⟨b, 0, none⟩) (Kept.of_below (F := fun x => x = b) (bt Y1.out X3.out (Nat.le_refl _))) rfl (.pointer (some ⟨bv, 0, none⟩)))
        have TT := hide (TrieAt.set B3.out N3.out)
        clear c3 f3
        go_wp2
        go_ret
        exact ⟨fun _ => ⟨rfl, TT.out⟩, fun h => absurd HPQ.out h, KK.out⟩
    · simp only [decide_eq_false hq] at hl
      have HPQ : Hid (¬ (Pfx a k ∧ Lab l)) := fun h => hq h.2
      clear hp hq e3
      go_enter Try.func18, Try.ntmps18
      go_wp2_with (first
        | (go_at_call 19; refine (hr _).mono ?_; rintro e w1 ⟨rfl, x1⟩; have X1 := hide x1; clear x1)
        | (go_at_call 25; refine (hl _).mono ?_; rintro e w1 ⟨rfl, hw1⟩; subst hw1))
      go_ret
      have Y1 := al (bt (al (Below.refl _ w) (.cells #[.int .i64 a, .int .i64 k] 42)) X1.out (Nat.le_refl _)) (.cells #[.int .i64 (rngL a k), .int .i64 (rngH a k)] 58)
      exact ⟨fun h => absurd h HPQ.out, fun _ => ⟨rfl, HT.out.below Y1⟩, Kept.of_below Y1⟩
  · have e3 : pprE a k = 1 := if_neg hp
    simp only [e3] at hr
    have HPQ : Hid (¬ (Pfx a k ∧ Lab l)) := fun h => hp h.1
    clear hp e3
    go_enter Try.func18, Try.ntmps18
    go_wp2_with (first
      | (go_at_call 19; refine (hr _).mono ?_; rintro e w1 ⟨rfl, x1⟩; have X1 := hide x1; clear x1)
      | (go_at_call 25; refine (hl _).mono ?_; rintro e w1 ⟨rfl, hw1⟩; subst hw1))
    go_ret
    have Y1 := al (bt (al (Below.refl _ w) (.cells #[.int .i64 a, .int .i64 k] 42)) X1.out (Nat.le_refl _)) (.cells #[.int .i64 (rngL a k), .int .i64 (rngH a k)] 58)
    exact ⟨fun h => absurd h HPQ.out, fun _ => ⟨rfl, HT.out.below Y1⟩, Kept.of_below Y1⟩
end Go.Proofs.Ytnfdjbaafiifnaa
