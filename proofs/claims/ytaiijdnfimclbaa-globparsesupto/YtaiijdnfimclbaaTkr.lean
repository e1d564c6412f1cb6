/-
  takers and what it lists, by their contracts. Condition: a set is right, and no longer than a process can hold.
-/
import Derived.Test.YtaiijdnfimclbaaCls
import Derived.Laws.EntriesVeiled
namespace Go.Proofs.Ytaiijdnfimclbaa
open Go.RowKit Go.Lib

/-- Does a piece take a byte? -/
def tkB (p : Pc) (b : Int) : Bool := if p.kind = 1 then decide (b = p.b) else if p.kind = 2 ∨ p.kind = 4 then (b != 47) else if p.kind = 3 then (b != 47) && (memB b p.set != p.no) else true
def pv (kd kb : Int) (kn : Bool) (ks : Option Addr) (kl kc : Nat) : Value := .agg #[.int .i64 kd, .int .i64 kb, .bool kn, .slice ks kl kc]
set_option maxRecDepth 100000 in
theorem tk1_any (kd kb : Int) (kn : Bool) (ks : Option Addr) (kl kc : Nat) (b : Int) (w : World) : Calls Try.prog 57 #[.agg #[.int .i64 kd, .int .i64 kb, .bool kn, .slice ks kl kc], .int .i64 b] w fun e w' => e = .returned (.bool (decide (b = kb))) ∧ Below w.heap.size w w' := by
  go_enter Try.func57, Try.ntmps57
  go_wp2
  go_ret
  exact ⟨rfl, al (Below.refl _ _) _⟩
set_option maxRecDepth 100000 in
theorem tk2_any (kd kb : Int) (kn : Bool) (ks : Option Addr) (kl kc : Nat) (b : Int) (w : World) : Calls Try.prog 58 #[.agg #[.int .i64 kd, .int .i64 kb, .bool kn, .slice ks kl kc], .int .i64 b] w fun e w' => e = .returned (.bool ((b != 47))) ∧ Below w.heap.size w w' := by
  go_enter Try.func58, Try.ntmps58
  go_wp2
  go_ret
  exact ⟨rfl, al (Below.refl _ _) _⟩
set_option maxRecDepth 100000 in
theorem tk4_any (kd kb : Int) (kn : Bool) (ks : Option Addr) (kl kc : Nat) (b : Int) (w : World) : Calls Try.prog 61 #[.agg #[.int .i64 kd, .int .i64 kb, .bool kn, .slice ks kl kc], .int .i64 b] w fun e w' => e = .returned (.bool ((b != 47))) ∧ Below w.heap.size w w' := by
  go_enter Try.func61, Try.ntmps61
  go_wp2
  go_ret
  exact ⟨rfl, al (Below.refl _ _) _⟩
set_option maxRecDepth 100000 in
theorem tk5_any (kd kb : Int) (kn : Bool) (ks : Option Addr) (kl kc : Nat) (b : Int) (w : World) : Calls Try.prog 62 #[.agg #[.int .i64 kd, .int .i64 kb, .bool kn, .slice ks kl kc], .int .i64 b] w fun e w' => e = .returned (.bool true) ∧ Below w.heap.size w w' := by
  go_enter Try.func62, Try.ntmps62
  go_wp2
  go_ret
  exact ⟨rfl, al (Below.refl _ _) _⟩
set_option maxRecDepth 100000 in
set_option maxHeartbeats 1000000 in
theorem tk3_any (kd kb : Int) (kn : Bool) (ks : Option Addr) (kc : Nat) (L : List Spn) (b : Int) (w : World) (hl : L.length ≤ 140737488351232) (hs : IsSet L) (hat : SpAt w ks L) : Calls Try.prog 59 #[.agg #[.int .i64 kd, .int .i64 kb, .bool kn, .slice ks L.length kc], .int .i64 b] w fun e w' => e = .returned (.bool ((b != 47) && (memB b L != kn))) ∧ Below w.heap.size w w' := by
  have X1 := hide (al (Below.refl w.heap.size w) (.cells #[.int .i64 kd, .int .i64 kb, .bool kn, .slice ks L.length kc] 44))
  have B1 := hide (heap_alloc_new w (.cells #[.int .i64 kd, .int .i64 kb, .bool kn, .slice ks L.length kc] 44))
  obtain ⟨c0, c1, c2, c3⟩ := cells4 B1.out
  by_cases hb : b = 47
  · have HE : Hid (((b != 47) && (memB b L != kn)) = false) := by simp [Hid, hb]
    clear hat
    go_enter Try.func59, Try.ntmps59
    go_wp2
    generalize w.alloc (.cells #[.int .i64 kd, .int .i64 kb, .bool kn, .slice ks L.length kc] 44) = W at *
    go_quiet (fail)
    go_wp2
    go_ret
    exact ⟨by rw [HE.out]; rfl, X1.out.trans (below_drewN _ _ _)⟩
  · have hbn : (b != 47) = true := by simp [hb]
    have HE : Hid (((b != 47) && (memB b L != kn)) = (memB b L != kn)) := by unfold Hid; rw [hbn, Bool.true_and]
    have HH : Hid (∀ W, Below w.heap.size w W → Calls Try.prog 60 #[.slice ks L.length kc, .int .i64 b] W fun e w' => e = .returned (.bool (memB b L)) ∧ Below W.heap.size W w') := fun W x => by
      have := has_any ks kc L b W hl (hat.below x)
      rwa [show hasL L b = memB b L by simp [hasL, hs]] at this
    clear hat
    go_enter Try.func59, Try.ntmps59
    go_wp2
    generalize w.alloc (.cells #[.int .i64 kd, .int .i64 kb, .bool kn, .slice ks L.length kc] 44) = W at *
    have hWl := lt_of_block B1.out
    obtain ⟨mb, HMB⟩ : ∃ mb, Hid (mb = memB b L) := ⟨_, rfl⟩
    rw [← HMB.out] at HH
    go_region_held3 (fun w' => w'.cell? ⟨w.heap.size, 2, none⟩ = some (.bool kn) ∧ w'.cell? ⟨w.heap.size, 3, none⟩ = some (.slice ks L.length kc)) (first | assumption | (simp [go_sem, *]; done))
      (first | (go_at_call 60; refine (HH.out _ (X1.out.trans ((Below.refl _ _).drew.mono X1.out.size))).mono ?_; rintro e w3 ⟨rfl, x3⟩; have y3 : Below W.heap.size W w3 := (Below.refl _ _).drew.trans x3; have X3 := hide y3; have g2 : w3.cell? ⟨w.heap.size, 2, none⟩ = some (.bool kn) := (y3.cell (p := ⟨w.heap.size, 2, none⟩) hWl).trans c2; have g3 : w3.cell? ⟨w.heap.size, 3, none⟩ = some (.slice ks L.length kc) := (y3.cell (p := ⟨w.heap.size, 3, none⟩) hWl).trans c3; clear x3 y3))
    go_wp2
    go_ret
    exact ⟨by rw [HE.out, ← HMB.out]; rfl, bt X1.out X3.out (Nat.le_refl _)⟩
/-- The list that takers makes. -/
def tkrs : Array Value := #[.nilFunc, .func (.func 57) #[] #[], .func (.func 58) #[] #[], .func (.func 59) #[] #[], .func (.func 61) #[] #[], .func (.func 62) #[] #[]]
set_option maxRecDepth 100000 in
theorem takers_any (w : World) : Calls Try.prog 35 #[] w fun e w' => e = .returned (.slice (some ⟨w.heap.size, 0, none⟩) 6 6) ∧ w' = w.alloc (.cells tkrs 95) := by
  go_enter Try.func35, Try.ntmps35
  go_wp2
  go_ret
  exact ⟨rfl, rfl⟩
end Go.Proofs.Ytaiijdnfimclbaa
