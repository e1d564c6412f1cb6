/-
  knownAnd, knownOr, knownXor by their contracts; And, Or, Xor, Not. No condition.
-/
import Derived.Test.YtaafeflbanoncaaQ22
namespace Go.Proofs.Ytaafeflbanoncaa
open Go.RowKit Go.Lib Go.Maps

section
variable {w : World} {S : List Int} {M : Int} {N : List Nd} {P G : Nat → Prop} {f g r : Int} {p : Nat → Nat} {op : Bool → Bool → Bool}
theorem sayR_zero : sayR N p 0 = false := by rw [sayR_low (by omega)]; rfl
theorem sayR_one : sayR N p 1 = true := by rw [sayR_low (by omega)]; rfl
theorem ptok_of (ok : Ok S M N) (hf : hasR N f) (hg : hasR N g) (hr : r = 0 ∨ r = 1 ∨ r = f ∨ r = g) (hs : ∀ p, Pnt S p → sayR N p r = op (sayR N p f) (sayR N p g)) : PtOk S N op (fun p => p) f g r := by
  have h1 := ok.lvl_le hf
  have h2 := ok.lvl_le hg
  refine ⟨?_, hs, ?_⟩
  · rcases hr with rfl | rfl | rfl | rfl
    · exact ⟨by omega, by omega⟩
    · exact ⟨by omega, by omega⟩
    · exact hf
    · exact hg
  · rcases hr with rfl | rfl | rfl | rfl
    · rw [lvl_low (f := 0) (by omega)]; omega
    · rw [lvl_low (f := 1) (by omega)]; omega
    · omega
    · omega
theorem kn_yes (h : PtOk S N op (fun p => p) f g r) : KnP S N op (fun p => p) f g r true := ⟨fun _ => h, fun h => Bool.noConfusion h⟩
theorem kn_no (ok : Ok S M N) (hf : hasR N f) (hg : hasR N g) (h : 2 ≤ f ∨ 2 ≤ g) : KnP S N op (fun p => p) f g r false := by
  refine ⟨fun h => Bool.noConfusion h, fun _ => ⟨?_, fun _ => rfl⟩⟩
  rcases h with h | h
  · obtain ⟨l, ks, hn⟩ := ok.ndAt h hf.2
    have := hn.lev
    have := hn.lt
    omega
  · obtain ⟨l, ks, hn⟩ := ok.ndAt h hg.2
    have := hn.lev
    have := hn.lt
    omega
def KnL (S : List Int) (N : List Nd) (op : Bool → Bool → Bool) (f g : Int) (w : World) (e : Ending) (w' : World) : Prop := ∃ r is, e = .returned (.tuple #[.int .i64 r, .bool is]) ∧ Below w.heap.size w w' ∧ KnP S N op (fun p => p) f g r is
set_option maxRecDepth 100000 in
set_option maxHeartbeats 1000000 in
theorem knownAnd_any (ok : Ok S M N) (hf : hasR N f) (hg : hasR N g) (w : World) : Calls Try.prog 58 #[.agg #[.int .i64 f, .int .i64 g]] w fun e w' => KnL S N (fun a b => a && b) f g w e w' := by
  have Y : Hid (Below w.heap.size w (w.alloc (.cells #[.int .i64 f, .int .i64 g] 100))) := al (Below.refl _ _) _
  have hf0 := hf.1
  have hg0 := hg.1
  by_cases h0 : f = 0
  · subst h0
    have FIN := hide (kn_yes (ptok_of (op := (fun a b => a && b)) (r := 0) ok hf hg (.inl rfl) (fun p hp => by rw [sayR_zero]; simp)))
    clear ok hf hg
    go_enter Try.func58, Try.ntmps58
    go_wp2
    go_ret2
    exact ⟨0, true, rfl, Y.out, FIN.out⟩
  have e0 : (f == 0) = false := by simpa using h0
  by_cases h1 : g = 0
  · subst h1
    have FIN := hide (kn_yes (ptok_of (op := (fun a b => a && b)) (r := 0) ok hf hg (.inl rfl) (fun p hp => by rw [sayR_zero]; simp)))
    clear ok hf hg
    go_enter Try.func58, Try.ntmps58
    go_wp2
    go_ret2
    exact ⟨0, true, rfl, Y.out, FIN.out⟩
  have e1 : (g == 0) = false := by simpa using h1
  by_cases h2 : f = 1
  · subst h2
    have FIN := hide (kn_yes (ptok_of (op := (fun a b => a && b)) (r := g) ok hf hg (.inr (.inr (.inr rfl))) (fun p hp => by rw [sayR_one]; simp)))
    clear ok hf hg
    go_enter Try.func58, Try.ntmps58
    go_wp2
    go_ret2
    exact ⟨g, true, rfl, Y.out, FIN.out⟩
  have e2 : (f == 1) = false := by simpa using h2
  by_cases h3 : g = 1
  · subst h3
    have FIN := hide (kn_yes (ptok_of (op := (fun a b => a && b)) (r := f) ok hf hg (.inr (.inr (.inl rfl))) (fun p hp => by rw [sayR_one]; simp)))
    clear ok hf hg
    go_enter Try.func58, Try.ntmps58
    go_wp2
    go_ret2
    exact ⟨f, true, rfl, Y.out, FIN.out⟩
  have e3 : (g == 1) = false := by simpa using h3
  by_cases h4 : f = g
  · subst h4
    have FIN := hide (kn_yes (ptok_of (op := (fun a b => a && b)) (r := f) ok hf hg (.inr (.inr (.inl rfl))) (fun p hp => by simp)))
    clear ok hf hg
    go_enter Try.func58, Try.ntmps58
    go_wp2
    go_ret2
    exact ⟨f, true, rfl, Y.out, FIN.out⟩
  have e4 : (f == g) = false := by simpa using h4
  have FIN := hide (kn_no (r := 0) (op := (fun a b => a && b)) ok hf hg (.inl (by omega)))
  clear ok hf hg
  go_enter Try.func58, Try.ntmps58
  go_wp2
  go_ret2
  exact ⟨0, false, rfl, Y.out, FIN.out⟩
set_option maxRecDepth 100000 in
set_option maxHeartbeats 1000000 in
theorem knownOr_any (ok : Ok S M N) (hf : hasR N f) (hg : hasR N g) (w : World) : Calls Try.prog 73 #[.agg #[.int .i64 f, .int .i64 g]] w fun e w' => KnL S N (fun a b => a || b) f g w e w' := by
  have Y : Hid (Below w.heap.size w (w.alloc (.cells #[.int .i64 f, .int .i64 g] 100))) := al (Below.refl _ _) _
  have hf0 := hf.1
  have hg0 := hg.1
  by_cases h0 : f = 1
  · subst h0
    have FIN := hide (kn_yes (ptok_of (op := (fun a b => a || b)) (r := 1) ok hf hg (.inr (.inl rfl)) (fun p hp => by rw [sayR_one]; simp)))
    clear ok hf hg
    go_enter Try.func73, Try.ntmps73
    go_wp2
    go_ret2
    exact ⟨1, true, rfl, Y.out, FIN.out⟩
  have e0 : (f == 1) = false := by simpa using h0
  by_cases h1 : g = 1
  · subst h1
    have FIN := hide (kn_yes (ptok_of (op := (fun a b => a || b)) (r := 1) ok hf hg (.inr (.inl rfl)) (fun p hp => by rw [sayR_one]; simp)))
    clear ok hf hg
    go_enter Try.func73, Try.ntmps73
    go_wp2
    go_ret2
    exact ⟨1, true, rfl, Y.out, FIN.out⟩
  have e1 : (g == 1) = false := by simpa using h1
  by_cases h2 : f = 0
  · subst h2
    have FIN := hide (kn_yes (ptok_of (op := (fun a b => a || b)) (r := g) ok hf hg (.inr (.inr (.inr rfl))) (fun p hp => by rw [sayR_zero]; simp)))
    clear ok hf hg
    go_enter Try.func73, Try.ntmps73
    go_wp2
    go_ret2
    exact ⟨g, true, rfl, Y.out, FIN.out⟩
  have e2 : (f == 0) = false := by simpa using h2
  by_cases h3 : g = 0
  · subst h3
    have FIN := hide (kn_yes (ptok_of (op := (fun a b => a || b)) (r := f) ok hf hg (.inr (.inr (.inl rfl))) (fun p hp => by rw [sayR_zero]; simp)))
    clear ok hf hg
    go_enter Try.func73, Try.ntmps73
    go_wp2
    go_ret2
    exact ⟨f, true, rfl, Y.out, FIN.out⟩
  have e3 : (g == 0) = false := by simpa using h3
  by_cases h4 : f = g
  · subst h4
    have FIN := hide (kn_yes (ptok_of (op := (fun a b => a || b)) (r := f) ok hf hg (.inr (.inr (.inl rfl))) (fun p hp => by simp)))
    clear ok hf hg
    go_enter Try.func73, Try.ntmps73
    go_wp2
    go_ret2
    exact ⟨f, true, rfl, Y.out, FIN.out⟩
  have e4 : (f == g) = false := by simpa using h4
  have FIN := hide (kn_no (r := 0) (op := (fun a b => a || b)) ok hf hg (.inl (by omega)))
  clear ok hf hg
  go_enter Try.func73, Try.ntmps73
  go_wp2
  go_ret2
  exact ⟨0, false, rfl, Y.out, FIN.out⟩
set_option maxRecDepth 100000 in
set_option maxHeartbeats 1000000 in
theorem knownXor_any (ok : Ok S M N) (hf : hasR N f) (hg : hasR N g) (w : World) : Calls Try.prog 74 #[.agg #[.int .i64 f, .int .i64 g]] w fun e w' => KnL S N (fun a b => a != b) f g w e w' := by
  have Y : Hid (Below w.heap.size w (w.alloc (.cells #[.int .i64 f, .int .i64 g] 100))) := al (Below.refl _ _) _
  have hf0 := hf.1
  have hg0 := hg.1
  by_cases h4 : f = g
  · subst h4
    have e4 : (f == f) = true := by simp
    have FIN := hide (kn_yes (ptok_of (op := (fun a b => a != b)) (r := 0) ok hf hg (.inl rfl) (fun p hp => by rw [sayR_zero]; simp)))
    clear ok hf hg
    go_enter Try.func74, Try.ntmps74
    go_wp2
    go_ret2
    exact ⟨0, true, rfl, Y.out, FIN.out⟩
  have e4 : (f == g) = false := by simpa using h4
  by_cases h0 : f = 0
  · subst h0
    have FIN := hide (kn_yes (ptok_of (op := (fun a b => a != b)) (r := g) ok hf hg (.inr (.inr (.inr rfl))) (fun p hp => by rw [sayR_zero]; simp)))
    clear ok hf hg
    go_enter Try.func74, Try.ntmps74
    go_wp2
    go_ret2
    exact ⟨g, true, rfl, Y.out, FIN.out⟩
  have e0 : (f == 0) = false := by simpa using h0
  by_cases h1 : g = 0
  · subst h1
    have FIN := hide (kn_yes (ptok_of (op := (fun a b => a != b)) (r := f) ok hf hg (.inr (.inr (.inl rfl))) (fun p hp => by rw [sayR_zero]; simp)))
    clear ok hf hg
    go_enter Try.func74, Try.ntmps74
    go_wp2
    go_ret2
    exact ⟨f, true, rfl, Y.out, FIN.out⟩
  have e1 : (g == 0) = false := by simpa using h1
  have FIN := hide (kn_no (r := 0) (op := (fun a b => a != b)) ok hf hg (by omega))
  clear ok hf hg
  go_enter Try.func74, Try.ntmps74
  go_wp2
  go_ret2
  exact ⟨0, false, rfl, Y.out, FIN.out⟩
theorem knownAnd_c (c : Cf) (h1 : c.kv = .func (.func 58) #[] #[]) (h2 : c.op = (fun a b => a && b)) (h3 : c.q = fun p => p) (_h4 : c.Z = False) : KnC c 58 [] :=
  ⟨h1, fun args w => rfl, ⟨fun p hp => by rw [h3]; exact hp, fun p p' l h => by rw [h3]; exact h⟩, fun w N P G f g ms hf hg _ => (knownAnd_any ms.ca.ok hf hg w).mono (fun e w' h => by
    obtain ⟨r, is, rfl, x, k⟩ := h
    exact ⟨r, is, G, rfl, ms.below x, Gw.refl _ _, Kept.of_below x, by rw [h2, h3]; exact k⟩)⟩
theorem knownOr_c (c : Cf) (h1 : c.kv = .func (.func 73) #[] #[]) (h2 : c.op = (fun a b => a || b)) (h3 : c.q = fun p => p) (_h4 : c.Z = False) : KnC c 73 [] :=
  ⟨h1, fun args w => rfl, ⟨fun p hp => by rw [h3]; exact hp, fun p p' l h => by rw [h3]; exact h⟩, fun w N P G f g ms hf hg _ => (knownOr_any ms.ca.ok hf hg w).mono (fun e w' h => by
    obtain ⟨r, is, rfl, x, k⟩ := h
    exact ⟨r, is, G, rfl, ms.below x, Gw.refl _ _, Kept.of_below x, by rw [h2, h3]; exact k⟩)⟩
theorem knownXor_c (c : Cf) (h1 : c.kv = .func (.func 74) #[] #[]) (h2 : c.op = (fun a b => a != b)) (h3 : c.q = fun p => p) (_h4 : c.Z = False) : KnC c 74 [] :=
  ⟨h1, fun args w => rfl, ⟨fun p hp => by rw [h3]; exact hp, fun p p' l h => by rw [h3]; exact h⟩, fun w N P G f g ms hf hg _ => (knownXor_any ms.ca.ok hf hg w).mono (fun e w' h => by
    obtain ⟨r, is, rfl, x, k⟩ := h
    exact ⟨r, is, G, rfl, ms.below x, Gw.refl _ _, Kept.of_below x, by rw [h2, h3]; exact k⟩)⟩
set_option maxRecDepth 100000 in
theorem and_ok {a m : Nat} (h : CA w a S M N m P) (hf : hasR N f) (hg : hasR N g) : Calls Try.prog 24 #[.pointer (some ⟨a, 0, none⟩), .int .i64 f, .int .i64 g] w fun e w' => OpL a S M N P (fun p => (fun a b => a && b) (sayR N p f) (sayR N p g)) w e w' := by
  have HJ := hide (join_ok (op := (fun a b => a && b)) (cl := 58) knownAnd_c h hf hg)
  clear h hf hg
  go_enter Try.func24, Try.ntmps24
  go_wp2_with (go_at_call 57; refine HJ.out.mono ?_; rintro e w1 ⟨r, er, N', P', rfl, h1⟩; have H1 := hide h1; clear h1)
  go_ret2
  exact ⟨r, er, N', P', rfl, H1.out⟩
set_option maxRecDepth 100000 in
theorem or_ok {a m : Nat} (h : CA w a S M N m P) (hf : hasR N f) (hg : hasR N g) : Calls Try.prog 39 #[.pointer (some ⟨a, 0, none⟩), .int .i64 f, .int .i64 g] w fun e w' => OpL a S M N P (fun p => (fun a b => a || b) (sayR N p f) (sayR N p g)) w e w' := by
  have HJ := hide (join_ok (op := (fun a b => a || b)) (cl := 73) knownOr_c h hf hg)
  clear h hf hg
  go_enter Try.func39, Try.ntmps39
  go_wp2_with (go_at_call 57; refine HJ.out.mono ?_; rintro e w1 ⟨r, er, N', P', rfl, h1⟩; have H1 := hide h1; clear h1)
  go_ret2
  exact ⟨r, er, N', P', rfl, H1.out⟩
set_option maxRecDepth 100000 in
theorem xor_ok {a m : Nat} (h : CA w a S M N m P) (hf : hasR N f) (hg : hasR N g) : Calls Try.prog 41 #[.pointer (some ⟨a, 0, none⟩), .int .i64 f, .int .i64 g] w fun e w' => OpL a S M N P (fun p => (fun a b => a != b) (sayR N p f) (sayR N p g)) w e w' := by
  have HJ := hide (join_ok (op := (fun a b => a != b)) (cl := 74) knownXor_c h hf hg)
  clear h hf hg
  go_enter Try.func41, Try.ntmps41
  go_wp2_with (go_at_call 57; refine HJ.out.mono ?_; rintro e w1 ⟨r, er, N', P', rfl, h1⟩; have H1 := hide h1; clear h1)
  go_ret2
  exact ⟨r, er, N', P', rfl, H1.out⟩
set_option maxRecDepth 100000 in
theorem not_ok {a m : Nat} (h : CA w a S M N m P) (hf : hasR N f) : Calls Try.prog 25 #[.pointer (some ⟨a, 0, none⟩), .int .i64 f] w fun e w' => OpL a S M N P (fun p => !sayR N p f) w e w' := by
  have HJ := hide (xor_ok h hf (g := 1) ⟨by omega, by omega⟩)
  clear h hf
  go_enter Try.func25, Try.ntmps25
  go_wp2_with (go_at_call 41; refine HJ.out.mono ?_; rintro e w1 ⟨r, er, N', P', rfl, h1⟩; have H1 := hide h1; clear h1)
  go_ret2
  obtain ⟨h1, h2, h3, h5, h4⟩ := H1.out
  have e : (fun p => (fun a b => a != b) (sayR N p f) (sayR N p 1)) = fun p => !sayR N p f := by
    funext p
    rw [sayR_one]
    simp
  rw [e] at h4 h5
  exact ⟨r, er, N', P', rfl, h1, h2, h3, h5, h4⟩
end
end Go.Proofs.Ytaafeflbanoncaa
