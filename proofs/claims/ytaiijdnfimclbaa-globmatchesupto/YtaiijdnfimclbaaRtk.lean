/-
  The document's Takes by its contract. Condition: a list is no longer than a process can hold.
-/
import Derived.Test.YtaiijdnfimclbaaRst
namespace Go.Proofs.Ytaiijdnfimclbaa
open Go.RowKit Go.Lib

theorem Rp.len {p : Pc} (h : Rp p) : IsSet p.set := by
  rcases h with h | h | h
  · rw [h.2.2.2.2]; exact ⟨fun _ h => (by cases h), List.Pairwise.nil⟩
  · rw [h.2.2.2]; exact ⟨fun _ h => (by cases h), List.Pairwise.nil⟩
  · exact h.2.2.1
set_option maxRecDepth 100000 in
set_option maxHeartbeats 2000000 in
theorem refTakes_any (kd kb : Int) (kn : Bool) (ks : Option Addr) (kc : Nat) (S : List Spn) (c : UInt8) (w : World) (hR : Rp ⟨kd, kb, kn, S⟩) (hl : S.length ≤ 140737488351232) (hat : SpAt w ks S) :
    Calls Try.prog 64 #[.agg #[.int .i64 kd, .int .i64 kb, .bool kn, .slice ks S.length kc], .int .u8 (c.toNat : Nat)] w fun e w' => e = .returned (.bool (tkB ⟨kd, kb, kn, S⟩ ((c.toNat : Nat) : Int))) ∧ Below w.heap.size w w' := by
  have hk := hR.kinds
  have hS : IsSet S := hR.len
  have hc : c.toNat < 256 := c.toNat_lt
  obtain ⟨z, hz⟩ : ∃ z : Int, Hid (z = ((c.toNat : Nat) : Int)) := ⟨_, rfl⟩
  have hw : IntKind.i64.wrap z = z := by rw [hz.out]; simp [IntKind.wrap, IntKind.bits, IntKind.signed]; omega
  rw [← hz.out]
  clear hR hc
  have hk' : kd = 1 ∨ kd = 2 ∨ kd = 3 ∨ kd = 4 ∨ kd = 5 := hk
  clear hk
  by_cases h3 : kd = 3
  · subst h3
    clear hk'
    have X1 := hide (al (Below.refl w.heap.size w) (.cells #[.int .i64 3, .int .i64 kb, .bool kn, .slice ks S.length kc] 44))
    have B1 := hide (heap_alloc_new w (.cells #[.int .i64 3, .int .i64 kb, .bool kn, .slice ks S.length kc] 44))
    have HS := hide (refHas_any ks kc S z _ hl (hat.below X1.out))
    have HH : Hid (hasL S z = memB z S) := by simp [Hid, hasL, hS]
    rw [HH.out] at HS
    have HE : Hid (tkB ⟨3, kb, kn, S⟩ z = ((z != 47) && (memB z S != kn))) := rfl
    rw [HE.out]
    clear hat hS
    generalize memB z S = m at *
    by_cases h47 : z = 47
    · subst h47
      clear hw
      go_enter Try.func64, Try.ntmps64
      go_wp2_with (go_at_call 76; refine HS.out.mono ?_; rintro e w2 ⟨rfl, x2⟩; have X2 := hide (bt X1.out x2 (Nat.le_refl _)); have B2 := (x2.block _ (lt_of_block B1.out)).trans B1.out; obtain ⟨e0, e1, e2, e3⟩ := cells4 B2; clear B2 x2)
      go_ret
      exact ⟨by first | rfl | simp, X2.out⟩
    · go_enter Try.func64, Try.ntmps64
      go_wp2_with (go_at_call 76; refine HS.out.mono ?_; rintro e w2 ⟨rfl, x2⟩; have X2 := hide (bt X1.out x2 (Nat.le_refl _)); have B2 := (x2.block _ (lt_of_block B1.out)).trans B1.out; obtain ⟨e0, e1, e2, e3⟩ := cells4 B2; clear B2 x2)
      go_ret
      exact ⟨by first | rfl | simp [h47], X2.out⟩
  · clear hat
    rcases hk' with rfl | rfl | h | rfl | rfl
    · have HE : Hid (tkB ⟨1, kb, kn, S⟩ z = decide (z = kb)) := rfl
      rw [HE.out]
      go_enter Try.func64, Try.ntmps64
      go_wp2
      go_ret
      exact ⟨by first | rfl | simp, al (Below.refl _ _) _⟩
    · have HE : Hid (tkB ⟨2, kb, kn, S⟩ z = (z != 47)) := rfl
      rw [HE.out]
      go_enter Try.func64, Try.ntmps64
      go_wp2
      go_ret
      exact ⟨by first | rfl | simp, al (Below.refl _ _) _⟩
    · exact absurd h h3
    · have HE : Hid (tkB ⟨4, kb, kn, S⟩ z = (z != 47)) := rfl
      rw [HE.out]
      go_enter Try.func64, Try.ntmps64
      go_wp2
      go_ret
      exact ⟨by first | rfl | simp, al (Below.refl _ _) _⟩
    · have HE : Hid (tkB ⟨5, kb, kn, S⟩ z = true) := rfl
      rw [HE.out]
      go_enter Try.func64, Try.ntmps64
      go_wp2
      go_ret
      exact ⟨by first | rfl | simp, al (Below.refl _ _) _⟩
end Go.Proofs.Ytaiijdnfimclbaa
