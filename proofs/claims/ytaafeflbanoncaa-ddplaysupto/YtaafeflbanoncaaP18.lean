/-
  knownAnd, knownOr, knownXor by their contracts; And, Or, Xor, Not. No condition.
-/
import Derived.Test.YtaafeflbanoncaaP17
namespace Go.Proofs.Ytaafeflbanoncaa
open Go.RowKit Go.Lib Go.Maps

section
variable {w : World} {S : List Int} {M : Int} {N : List Nd} {P G : Nat → Prop} {f g r : Int} {p : Nat → Nat} {op : Bool → Bool → Bool}
theorem sayR_zero : sayR N p 0 = false := by rw [sayR_low (by omega)]; rfl
theorem sayR_one : sayR N p 1 = true := by rw [sayR_low (by omega)]; rfl
theorem ptok_of (ok : Ok S M N) (hf : hasR N f) (hg : hasR N g) (hr : r = 0 ∨ r = 1 ∨ r = f ∨ r = g) (hs : ∀ p, Pnt S p → sayR N p r = op (sayR N p f) (sayR N p g)) : PtOk S N op (fun p => p) f g r := by
  have h1 := ok.lvl_le hf
  have h2 := ok.lvl_le hg
  refine ⟨?_, hs, ?_⟩
  · rcases hr with rfl | rfl | rfl | rfl
    · exact ⟨by omega, by omega⟩
    · exact ⟨by omega, by omega⟩
    · exact hf
    · exact hg
  · rcases hr with rfl | rfl | rfl | rfl
    · rw [lvl_low (f := 0) (by omega)]; omega
    · rw [lvl_low (f := 1) (by omega)]; omega
    · omega
    · omega
theorem kn_yes (h : PtOk S N op (fun p => p) f g r) : KnP S N op (fun p => p) f g r true := ⟨fun _ => h, fun h => Bool.noConfusion h⟩
theorem kn_no (ok : Ok S M N) (hf : hasR N f) (hg : hasR N g) (h : 2 ≤ f ∨ 2 ≤ g) : KnP S N op (fun p => p) f g r false := by
  refine ⟨fun h => Bool.noConfusion h, fun _ => ⟨?_, fun _ => rfl⟩⟩
  rcases h with h | h
  · obtain ⟨l, ks, hn⟩ := ok.ndAt h hf.2
    have := hn.lev
    have := hn.lt
    omega
  · obtain ⟨l, ks, hn⟩ := ok.ndAt h hg.2
    have := hn.lev
    have := hn.lt
    omega
def KnL (S : List Int) (N : List Nd) (op : Bool → Bool → Bool) (f g : Int) (w : World) (e : Ending) (w' : World) : Prop := ∃ r is, e = .returned (.tuple #[.int .i64 r, .bool is]) ∧ Below w.heap.size w w' ∧ KnP S N op (fun p => p) f g r is
set_option maxRecDepth 100000 in
set_option maxHeartbeats 1000000 in
theorem knownAnd_any (ok : Ok S M N) (hf : hasR N f) (hg : hasR N g) (w : World) : Calls Try.prog 58 #[.agg #[.int .i64 f, .int .i64 g]] w fun e w' => KnL S N (fun a b => a && b) f g w e w' := by
  have Y : Hid (Below w.heap.size w (w.alloc (.cells #[.int .i64 f, .int .i64 g] 100))) := al (Below.refl _ _) _
  have hf0 := hf.1
  have hg0 := hg.1
  by_cases h0 : f = 0
  · subst h0
    have FIN := hide (kn_yes (ptok_of (op := (fun a b => a && b)) (r := 0) ok hf hg (.inl rfl) (fun p hp => by rw [sayR_zero]; simp)))
    clear ok hf hg
    go_enter Try.func58, Try.ntmps58
    go_wp2
    go_ret2
    exact ⟨0, true, rfl, Y.out, FIN.out⟩
  have e0 : (f == 0) = false := by simpa using h0
  by_cases h1 : g = 0
  · subst h1
    have FIN := hide (kn_yes (ptok_of (op := (fun a b => a && b)) (r := 0) ok hf hg (.inl rfl) (fun p hp => by rw [sayR_zero]; simp)))
    clear ok hf hg
    go_enter Try.func58, Try.ntmps58
    go_wp2
    go_ret2
    exact ⟨0, true, rfl, Y.out, FIN.out⟩
  have e1 : (g == 0) = false := by simpa using h1
  by_cases h2 : f = 1
  · subst h2
    have FIN := hide (kn_yes (ptok_of (op := (fun a b => a && b)) (r := g) ok hf hg (.inr (.inr (.inr rfl))) (fun p hp => by rw [sayR_one]; simp)))
    clear ok hf hg
    go_enter Try.func58, Try.ntmps58
    go_wp2
    go_ret2
    exact ⟨g, true, rfl, Y.out, FIN.out⟩
  have e2 : (f == 1) = false := by simpa using h2
  by_cases h3 : g = 1
  · subst h3
    have FIN := hide (kn_yes (ptok_of (op := (fun a b => a && b)) (r := f) ok hf hg (.inr (.inr (.inl rfl))) (fun p hp => by rw [sayR_one]; simp)))
    clear ok hf hg
    go_enter Try.func58, Try.ntmps58
    go_wp2
    go_ret2
    exact ⟨f, true, rfl, Y.out, FIN.out⟩
  have e3 : (g == 1) = false := by simpa using h3
  by_cases h4 : f = g
  · subst h4
    have FIN := hide (kn_yes (ptok_of (op := (fun a b => a && b)) (r := f) ok hf hg (.inr (.inr (.inl rfl))) (fun p hp => by simp)))
    clear ok hf hg
    go_enter Try.func58, Try.ntmps58
    go_wp2
    go_ret2
    exact ⟨f, true, rfl, Y.out, FIN.out⟩
  have e4 : (f == g) = false := by simpa using h4
  have FIN := hide (kn_no (r := 0) (op := (fun a b => a && b)) ok hf hg (.inl (by omega)))
  clear ok hf hg
  go_enter Try.func58, Try.ntmps58
  go_wp2
  go_ret2
  exact ⟨0, false, rfl, Y.out, FIN.out⟩
set_option maxRecDepth 100000 in
set_option maxHeartbeats 1000000 in
theorem knownOr_any (ok : Ok S M N) (hf : hasR N f) (hg : hasR N g) (w : World) : Calls Try.prog 73 #[.agg #[.int .i64 f, .int .i64 g]] w fun e w' => KnL S N (fun a b => a || b) f g w e w' := by
  have Y : Hid (Below w.heap.size w (w.alloc (.cells #[.int .i64 f, .int .i64 g] 100))) := al (Below.refl _ _) _
  have hf0 := hf.1
  have hg0 := hg.1
  by_cases h0 : f = 1
  · subst h0
    have FIN := hide (kn_yes (ptok_of (op := (fun a b => a || b)) (r := 1) ok hf hg (.inr (.inl rfl)) (fun p hp => by rw [sayR_one]; simp)))
    clear ok hf hg
    go_enter Try.func73, Try.ntmps73
    go_wp2
    go_ret2
    exact ⟨1, true, rfl, Y.out, FIN.out⟩
  have e0 : (f == 1) = false := by simpa using h0
  by_cases h1 : g = 1
  · subst h1
    have FIN := hide (kn_yes (ptok_of (op := (fun a b => a || b)) (r := 1) ok hf hg (.inr (.inl rfl)) (fun p hp => by rw [sayR_one]; simp)))
    clear ok hf hg
    go_enter Try.func73, Try.ntmps73
    go_wp2
    go_ret2
    exact ⟨1, true, rfl, Y.out, FIN.out⟩
  have e1 : (g == 1) = false := by simpa using h1
  by_cases h2 : f = 0
  · subst h2
    have FIN := hide (kn_yes (ptok_of (op := (fun a b => a || b)) (r := g) ok hf hg (.inr (.inr (.inr rfl))) (fun p hp => by rw [sayR_zero]; simp)))
    clear ok hf hg
    go_enter Try.func73, Try.ntmps73
    go_wp2
    go_ret2
    exact ⟨g, true, rfl, Y.out, FIN.out⟩
  have e2 : (f == 0) = false := by simpa using h2
  by_cases h3 : g = 0
  · subst h3
    have FIN := hide (kn_yes (ptok_of (op := (fun a b => a || b)) (r := f) ok hf hg (.inr (.inr (.inl rfl))) (fun p hp => by rw [sayR_zero]; simp)))
    clear ok hf hg
    go_enter Try.func73, Try.ntmps73
    go_wp2
    go_ret2
    exact ⟨f, true, rfl, Y.out, FIN.out⟩
  have e3 : (g == 0) = false := by simpa using h3
  by_cases h4 : f = g
  · subst h4
    have FIN := hide (kn_yes (ptok_of (op := (fun a b => a || b)) (r := f) ok hf hg (.inr (.inr (.inl rfl))) (fun p hp => by simp)))
    clear ok hf hg
    go_enter Try.func73, Try.ntmps73
    go_wp2
    go_ret2
    exact ⟨f, true, rfl, Y.out, FIN.out⟩
  have e4 : (f == g) = false := by simpa using h4
  have FIN := hide (kn_no (r := 0) (op := (fun a b => a || b)) ok hf hg (.inl (by omega)))
  clear ok hf hg
  go_enter Try.func73, Try.ntmps73
  go_wp2
  go_ret2
  exact ⟨0, false, rfl, Y.out, FIN.out⟩
set_option maxRecDepth 100000 in
set_option maxHeartbeats 1000000 in
theorem knownXor_any (ok : Ok S M N) (hf : hasR N f) (hg : hasR N g) (w : World) : Calls Try.prog 74 #[.agg #[.int .i64 f, .int .i64 g]] w fun e w' => KnL S N (fun a b => a != b) f g w e w' := by
  have Y : Hid (Below w.heap.size w (w.alloc (.cells #[.int .i64 f, .int .i64 g] 100))) := al (Below.refl _ _) _
  have hf0 := hf.1
  have hg0 := hg.1
  by_cases h4 : f = g
  · subst h4
    have e4 : (f == f) = true := by simp
    have FIN := hide (kn_yes (ptok_of (op := (fun a b => a != b)) (r := 0) ok hf hg (.inl rfl) (fun p hp => by rw [sayR_zero]; simp)))
    clear ok hf hg
    go_enter Try.func74, Try.ntmps74
    go_wp2
    go_ret2
    exact ⟨0, true, rfl, Y.out, FIN.out⟩
  have e4 : (f == g) = false := by simpa using h4
  by_cases h0 : f = 0
  · subst h0
    have FIN := hide (kn_yes (ptok_of (op := (fun a b => a != b)) (r := g) ok hf hg (.inr (.inr (.inr rfl))) (fun p hp => by rw [sayR_zero]; simp)))
    clear ok hf hg
    go_enter Try.func74, Try.ntmps74
    go_wp2
    go_ret2
    exact ⟨g, true, rfl, Y.out, FIN.out⟩
  have e0 : (f == 0) = false := by simpa using h0
  by_cases h1 : g = 0
  · subst h1
    have FIN := hide (kn_yes (ptok_of (op := (fun a b => a != b)) (r := f) ok hf hg (.inr (.inr (.inl rfl))) (fun p hp => by rw [sayR_zero]; simp)))
    clear ok hf hg
    go_enter Try.func74, Try.ntmps74
    go_wp2
    go_ret2
    exact ⟨f, true, rfl, Y.out, FIN.out⟩
  have e1 : (g == 0) = false := by simpa using h1
  have FIN := hide (kn_no (r := 0) (op := (fun a b => a != b)) ok hf hg (by omega))
  clear ok hf hg
  go_enter Try.func74, Try.ntmps74
  go_wp2
  go_ret2
  exact ⟨0, false, rfl, Y.out, FIN.out⟩
theorem knownAnd_c (c : Cf) (h1 : c.kv = .func (.func 58) #[] #[]) (h2 : c.op = (fun a b => a && b)) (h3 : c.q = fun p => p) (_h4 : c.Z = False) : KnC c 58 [] :=
  ⟨h1, fun args w => rfl, ⟨fun p hp => by rw [h3]; exact hp, fun p p' l h => by rw [h3]; exact h⟩, fun w N P G f g ms hf hg _ => (knownAnd_any ms.ca.ok hf hg w).mono (fun e w' h => by
    obtain ⟨r, is, rfl, x, k⟩ := h
    exact ⟨r, is, G, rfl, ms.below x, Gw.refl _ _, Kept.of_below x, by rw [h2, h3]; exact k⟩)⟩
theorem knownOr_c (c : Cf) (h1 : c.kv = .func (.func 73) #[] #[]) (h2 : c.op = (fun a b => a || b)) (h3 : c.q = fun p => p) (_h4 : c.Z = False) : KnC c 73 [] :=
  ⟨h1, fun args w => rfl, ⟨fun p hp => by rw [h3]; exact hp, fun p p' l h => by rw [h3]; exact h⟩, fun w N P G f g ms hf hg _ => (knownOr_any ms.ca.ok hf hg w).mono (fun e w' h => by
    obtain ⟨r, is, rfl, x, k⟩ := h
    exact ⟨r, is, G, rfl, ms.below x, Gw.refl _ _, Kept.of_below x, by rw [h2, h3]; exact k⟩)⟩
theorem knownXor_c (c : Cf) (h1 : c.kv = .func (.func 74) #[] #[]) (h2 : c.op = (fun a b => a != b)) (h3 : c.q = fun p => p) (_h4 : c.Z = False) : KnC c 74 [] :=
  ⟨h1, fun args w => rfl, ⟨fun p hp => by rw [h3]; exact hp, fun p p' l h => by rw [h3]; exact h⟩, fun w N P G f g ms hf hg _ => (knownXor_any ms.ca.ok hf hg w).mono (fun e w' h => by
    obtain ⟨r, is, rfl, x, k⟩ := h
    exact ⟨r, is, G, rfl, ms.below x, Gw.refl _ _, Kept.of_below x, by rw [h2, h3]; exact k⟩)⟩
set_option maxRecDepth 100000 in
theorem and_ok {a m : Nat} (h : CA w a S M N m P) (hf : hasR N f) (hg : hasR N g) : Calls Try.prog 24 #[.pointer (some ⟨a, 0, none⟩), .int .i64 f, .int .i64 g] w fun e w' => OpL a S M N P (fun p => (fun a b => a && b) (sayR N p f) (sayR N p g)) w e w' := by
  have HJ := hide (join_ok (op := (fun a b => a && b)) (cl := 58) knownAnd_c h hf hg)
  clear h hf hg
  go_enter Try.func24, Try.ntmps24
  go_wp2_with (go_at_call 57; refine HJ.out.mono ?_; rintro e w1 ⟨r, er, N', P', rfl, h1⟩; have H1 := hide h1; clear h1)
  go_ret2
  exact ⟨r, er, N', P', rfl, H1.out⟩
set_option maxRecDepth 100000 in
theorem or_ok {a m : Nat} (h : CA w a S M N m P) (hf : hasR N f) (hg : hasR N g) : Calls Try.prog 39 #[.pointer (some ⟨a, 0, none⟩), .int .i64 f, .int .i64 g] w fun e w' => OpL a S M N P (fun p => (fun a b => a || b) (sayR N p f) (sayR N p g)) w e w' := by
  have HJ := hide (join_ok (op := (fun a b => a || b)) (cl := 73) knownOr_c h hf hg)
  clear h hf hg
  go_enter Try.func39, Try.ntmps39
  go_wp2_with (go_at_call 57; refine HJ.out.mono ?_; rintro e w1 ⟨r, er, N', P', rfl, h1⟩; have H1 := hide h1; clear h1)
  go_ret2
  exact ⟨r, er, N', P', rfl, H1.out⟩
set_option maxRecDepth 100000 in
theorem xor_ok {a m : Nat} (h : CA w a S M N m P) (hf : hasR N f) (hg : hasR N g) : Calls Try.prog 41 #[.pointer (some ⟨a, 0, none⟩), .int .i64 f, .int .i64 g] w fun e w' => OpL a S M N P (fun p => (fun a b => a != b) (sayR N p f) (sayR N p g)) w e w' := by
  have HJ := hide (join_ok (op := (fun a b => a != b)) (cl := 74) knownXor_c h hf hg)
  clear h hf hg
  go_enter Try.func41, Try.ntmps41
  go_wp2_with (go_at_call 57; refine HJ.out.mono ?_; rintro e w1 ⟨r, er, N', P', rfl, h1⟩; have H1 := hide h1; clear h1)
  go_ret2
  exact ⟨r, er, N', P', rfl, H1.out⟩
set_option maxRecDepth 100000 in
theorem not_ok {a m : Nat} (h : CA w a S M N m P) (hf : hasR N f) : Calls Try.prog 25 #[.pointer (some ⟨a, 0, none⟩), .int .i64 f] w fun e w' => OpL a S M N P (fun p => !sayR N p f) w e w' := by
  have HJ := hide (xor_ok h hf (g := 1) ⟨by omega, by omega⟩)
  clear h hf
  go_enter Try.func25, Try.ntmps25
  go_wp2_with (go_at_call 41; refine HJ.out.mono ?_; rintro e w1 ⟨r, er, N', P', rfl, h1⟩; have H1 := hide h1; clear h1)
  go_ret2
  obtain ⟨h1, h2, h3, h5, h4⟩ := H1.out
  have e : (fun p => (fun a b => a != b) (sayR N p f) (sayR N p 1)) = fun p => !sayR N p f := by
    funext p
    rw [sayR_one]
    simp
  rw [e] at h4 h5
  exact ⟨r, er, N', P', rfl, h1, h2, h3, h5, h4⟩
end
end Go.Proofs.Ytaafeflbanoncaa
/-
  What Restrict knows of a ref without a look, by its contract. No condition.
-/
namespace Go.Proofs.Ytaafeflbanoncaa
open Go.RowKit Go.Lib Go.Maps

section
variable {w : World} {c : Cf} {N : List Nd} {P G : Nat → Prop} {f : Int} {l k : Nat}
theorem rs_low (ok : Ok c.S c.M N) (hf : hasR N f) (hq : c.q = fun p => upd p l k) (hlt : lvl c.S N f < (l : Int)) (hl : l < c.S.length) : KnP c.S N c.op c.q f 0 0 false := by
  have h0 := ok.lvl_le hf
  have e : min (lvl c.S N f) (lvl c.S N 0) = lvl c.S N f := by rw [lvl_low (f := 0) (by omega)]; omega
  refine ⟨fun h => Bool.noConfusion h, fun _ => ⟨by rw [e]; omega, fun p => ?_⟩⟩
  rw [e, hq]
  exact upd_ne p k (by omega)
theorem rs_high (ok : Ok c.S c.M N) (hf : hasR N f) (ho : c.op = fun a _ => a) (hq : c.q = fun p => upd p l k) (hk : (k : Int) < c.S.getD l 0) (hlt : (l : Int) < lvl c.S N f) : KnP c.S N c.op c.q f 0 f true := by
  refine ⟨fun _ => ⟨hf, fun p hp => ?_, by omega⟩, fun h => Bool.noConfusion h⟩
  rw [ho, hq]
  exact (sayR_upd ok hp hk _ f (Nat.le_refl _) hf.1 hf.2 hlt).symm
theorem rs_at {ks : List Int} (ok : Ok c.S c.M N) (hf : hasR N f) (h2 : 2 ≤ f) (ho : c.op = fun a _ => a) (hq : c.q = fun p => upd p l k) (hk : k < ks.length) (hn : NdAt c.S N f l ks) : KnP c.S N c.op c.q f 0 (ks.getD k 0) true := by
  obtain ⟨a, b, d⟩ := hn.kid k hk
  have e := hn.lev
  refine ⟨fun _ => ⟨⟨a, by have := hf.2; omega⟩, fun p hp => ?_, by omega⟩, fun h => Bool.noConfusion h⟩
  rw [ho, hq]
  exact hn.kid_says ok hp h2 hf.2 hk
/-- The boxes that the function has taken along. -/
def bxs (mm mb lb cb l k : Nat) : List (Nat × Obj) := [(mb, .cells #[.pointer (some ⟨mm, 0, none⟩)] 103 (0, 0)), (lb, .cells #[.int .i64 (l : Int)] 3 (0, 0)), (cb, .cells #[.int .i64 (k : Int)] 3 (0, 0))]
theorem MS.boxes {mb lb cb : Nat} (h : MS w c N P G) (hx : c.xs = bxs c.mm mb lb cb l k) : w.cell? ⟨mb, 0, none⟩ = some (.pointer (some ⟨c.mm, 0, none⟩)) ∧ w.cell? ⟨lb, 0, none⟩ = some (.int .i64 (l : Int)) ∧ w.cell? ⟨cb, 0, none⟩ = some (.int .i64 (k : Int)) := by
  have h1 := h.ext
  rw [hx] at h1
  have g1 := (h1 (mb, .cells #[.pointer (some ⟨c.mm, 0, none⟩)] 103 (0, 0)) (by simp [bxs])).1
  have g2 := (h1 (lb, .cells #[.int .i64 (l : Int)] 3 (0, 0)) (by simp [bxs])).1
  have g3 := (h1 (cb, .cells #[.int .i64 (k : Int)] 3 (0, 0)) (by simp [bxs])).1
  exact ⟨by rw [cell_of_row w mb _ _ _ _ g1]; rfl, by rw [cell_of_row w lb _ _ _ _ g2]; rfl, by rw [cell_of_row w cb _ _ _ _ g3]; rfl⟩
def RcL (c : Cf) (N : List Nd) (P G : Nat → Prop) (f : Int) (w : World) (e : Ending) (w' : World) : Prop := ∃ r is G', e = .returned (.tuple #[.int .i64 r, .bool is]) ∧ MS w' c N P G' ∧ Gw w G G' ∧ Kept (fun k => k = c.kb) w w' ∧ KnP c.S N c.op c.q f 0 r is
set_option maxRecDepth 100000 in
set_option maxHeartbeats 2000000 in
theorem rsc_any {mb lb cb : Nat} (h : MS w c N P G) (hf : hasR N f) (hx : c.xs = bxs c.mm mb lb cb l k) (ho : c.op = fun a _ => a) (hq : c.q = fun p => upd p l k) (hl : l < c.S.length) (hk : (k : Int) < c.S.getD l 0) :
    Calls Try.prog 61 #[.agg #[.int .i64 f, .int .i64 0], .pointer (some ⟨mb, 0, none⟩), .pointer (some ⟨lb, 0, none⟩), .pointer (some ⟨cb, 0, none⟩)] w fun e w' => RcL c N P G f w e w' := by
  have y1 : Below w.heap.size w (w.alloc (.cells #[.int .i64 f, .int .i64 0] 100)) := al (Below.refl _ _) _
  have X1 := hide (bt y1 (Below.refl _ (w.alloc (.cells #[.int .i64 f, .int .i64 0] 100))).drew (Nat.le_refl _))
  have nb : (w.alloc (.cells #[.int .i64 f, .int .i64 0] 100)).drew.heap[w.heap.size]? = some (.cells #[.int .i64 f, .int .i64 0] 100 (0, 0)) := heap_alloc_new w _
  have HH := hide h
  have HF := hide hf
  have HX := hide hx
  have HO := hide ho
  have HQ := hide hq
  have HK := hide hk
  clear h hf hx ho hq hk y1
  go_enter Try.func61, Try.ntmps61
  go_upto_region 1 with fail
  have H1 := hide (HH.out.below X1.out)
  refine wp_unt (S := fun V => V = (w.alloc (.cells #[.int .i64 f, .int .i64 0] 100)).drew) 7 (by kernel_rfl) ?_
  generalize (w.alloc (.cells #[.int .i64 f, .int .i64 0] 100)).drew = w1 at *
  generalize hpb : w.heap.size = pb at *
  have HPB := hide hpb
  clear hpb
  have NB := hide nb
  have p0 : w1.cell? ⟨pb, 0, none⟩ = some (.int .i64 f) := by rw [cell_of_row _ _ _ _ _ _ nb]; rfl
  obtain ⟨b1, b2, b3⟩ := H1.out.boxes HX.out
  have q0 := H1.out.cells.1
  have L1 := hide (H1.out.ca.level f)
  obtain ⟨x, hxx⟩ : ∃ x, lvl c.S N f = x := ⟨_, rfl⟩
  rw [hxx] at L1
  have HXX := hide hxx
  have KW : Hid (Kept (fun k => k = c.kb) w w1) := Kept.of_below (by rw [HPB.out]; exact X1.out)
  clear hxx nb
  refine UntH.take (i := 0) (some 8) rfl rfl (by kernel_rfl) (by kernel_rfl) (by kernel_rfl) (by kernel_rfl) (fun _ _ _ _ h => h) (by rfl) rfl ?_
  apply Exists.intro
  refine ⟨fun w' hw' => ?_, ?_⟩
  · subst hw'
    go_simp
    first | done | rfl
  try simp only [Act.put, List.setIfInBounds_toArray, List.set_cons_zero, List.set_cons_succ]
  refine UntH.take (i := 1) (some 9) rfl rfl (by kernel_rfl) (by kernel_rfl) (by kernel_rfl) (by kernel_rfl) (fun _ _ _ _ h => h) (by rfl) rfl ?_
  apply Exists.intro
  refine ⟨fun w' hw' => ?_, ?_⟩
  · subst hw'
    go_simp
    first | done | rfl
  try simp only [Act.put, List.setIfInBounds_toArray, List.set_cons_zero, List.set_cons_succ]
  refine UntH.take (i := 2) (some 10) rfl rfl (by kernel_rfl) (by kernel_rfl) (by kernel_rfl) (by kernel_rfl) (fun _ _ _ _ h => h) (by rfl) rfl ?_
  apply Exists.intro
  refine ⟨fun w' hw' => ?_, ?_⟩
  · subst hw'
    go_simp
    first | done | rfl
  try simp only [Act.put, List.setIfInBounds_toArray, List.set_cons_zero, List.set_cons_succ]
  refine UntH.take (i := 3) (some 11) rfl rfl (by kernel_rfl) (by kernel_rfl) (by kernel_rfl) (by kernel_rfl) (fun _ _ _ _ h => h) (by rfl) rfl ?_
  apply Exists.intro
  refine ⟨fun w' hw' => ?_, ?_⟩
  · subst hw'
    go_simp
    first | done | rfl
  try simp only [Act.put, List.setIfInBounds_toArray, List.set_cons_zero, List.set_cons_succ]
  refine UntH.take (i := 4) (some 12) rfl rfl (by kernel_rfl) (by kernel_rfl) (by kernel_rfl) (by kernel_rfl) (fun _ _ _ _ h => h) (by rfl) rfl ?_
  apply Exists.intro
  refine ⟨fun w' hw' => ?_, ?_⟩
  · subst hw'
    go_simp
    first | done | rfl
  try simp only [Act.put, List.setIfInBounds_toArray, List.set_cons_zero, List.set_cons_succ]
  refine UntH.take (i := 5) (some 13) rfl rfl (by kernel_rfl) (by kernel_rfl) (by kernel_rfl) (by kernel_rfl) (fun _ _ _ _ h => h) (by rfl) rfl ?_
  apply Exists.intro
  refine ⟨fun w' hw' => ?_, ?_⟩
  · subst hw'
    go_simp
    first | done | rfl
  try simp only [Act.put, List.setIfInBounds_toArray, List.set_cons_zero, List.set_cons_succ]
  refine UntH.step (i := 6) (by kernel_rfl) rfl (fun K hK => ?_)
  go_simp
  refine L1.out.mono ?_
  rintro e w5 ⟨rfl, hw5⟩
  have hw6 := hw5.symm
  clear hw5
  subst hw6
  go_simp
  refine hK _ _ rfl ?_
  clear hK K L1
  refine UntH.last (by kernel_rfl) rfl (by kernel_rfl) (by kernel_rfl) (fun K hK => ?_)
  go_simp
  refine hK _ _ ?_
  clear hK K
  have ok := HH.out.ca.ok
  by_cases h1 : x < (l : Int)
  · have FIN := hide (rs_low ok HF.out HQ.out (by rw [HXX.out]; exact h1) hl)
    clear ok
    go_wp2
    go_ret2
    exact ⟨0, false, G, rfl, H1.out, Gw.refl _ _, KW.out, FIN.out⟩
  · by_cases h2 : x = (l : Int)
    · subst h2
      obtain ⟨h3, ks, hn⟩ := ok.node_of_lvl HF.out HXX.out hl
      obtain ⟨i, hi⟩ : ∃ i : Nat, f = (i : Int) + 2 := ⟨(f - 2).toNat, by omega⟩
      have hat := hn.at_
      rw [show (f - 2).toNat = i by omega] at hat
      have hkl : k < ks.length := by have := hn.len; have := HK.out; omega
      have FIN := hide (rs_at ok HF.out h3 HO.out HQ.out hkl hn)
      have HKL := hide hkl
      have hkl' : (k : Int) < (ks.length : Int) := by omega
      have HAT := hide hat
      have HI := hide hi
      clear ok hn hat h3 h1 hkl hi
      go_upto_region 5 with fail
      have H2 := hide (H1.out.below (Below.refl _ w1).drew)
      have NB2 : Hid (w1.drew.heap[pb]? = some (.cells #[.int .i64 f, .int .i64 0] 100 (0, 0))) := NB.out
      have KW2 : Hid (Kept (fun k => k = c.kb) w w1.drew) := KW.out.drew
      refine wp_unt (S := fun V => V.cell? ⟨mb, 0, none⟩ = some (.pointer (some ⟨c.mm, 0, none⟩)) ∧ V.cell? ⟨pb, 0, none⟩ = some (.int .i64 f) ∧ V.cell? ⟨cb, 0, none⟩ = some (.int .i64 (k : Int))) 8 (by kernel_rfl) ?_
      generalize w1.drew = w2 at *
      clear p0 b1 b2 b3 q0
      obtain ⟨b1, b2, b3⟩ := H2.out.boxes HX.out
      have hS : w2.cell? ⟨mb, 0, none⟩ = some (.pointer (some ⟨c.mm, 0, none⟩)) ∧ w2.cell? ⟨pb, 0, none⟩ = some (.int .i64 f) ∧ w2.cell? ⟨cb, 0, none⟩ = some (.int .i64 (k : Int)) := ⟨b1, by rw [cell_of_row _ _ _ _ _ _ NB2.out]; rfl, b3⟩
      clear b1 b2 b3
      refine UntH.take (i := 0) (some 23) rfl rfl (by kernel_rfl) (by kernel_rfl) (by kernel_rfl) (by kernel_rfl) (fun _ _ _ _ h => h) (by rfl) hS ?_
      apply Exists.intro
      refine ⟨fun w' hw' => ?_, ?_⟩
      · (obtain ⟨q1, q2, q3⟩ := hw')
        go_simp
        first | done | rfl
      try simp only [Act.put, List.setIfInBounds_toArray, List.set_cons_zero, List.set_cons_succ]
      refine UntH.take (i := 1) (some 24) rfl rfl (by kernel_rfl) (by kernel_rfl) (by kernel_rfl) (by kernel_rfl) (fun _ _ _ _ h => h) (by rfl) hS ?_
      apply Exists.intro
      refine ⟨fun w' hw' => ?_, ?_⟩
      · (obtain ⟨q1, q2, q3⟩ := hw')
        go_simp
        first | done | rfl
      try simp only [Act.put, List.setIfInBounds_toArray, List.set_cons_zero, List.set_cons_succ]
      refine UntH.take (i := 2) (some 25) rfl rfl (by kernel_rfl) (by kernel_rfl) (by kernel_rfl) (by kernel_rfl) (fun _ _ _ _ h => h) (by rfl) hS ?_
      apply Exists.intro
      refine ⟨fun w' hw' => ?_, ?_⟩
      · (obtain ⟨q1, q2, q3⟩ := hw')
        go_simp
        first | done | rfl
      try simp only [Act.put, List.setIfInBounds_toArray, List.set_cons_zero, List.set_cons_succ]
      refine UntH.take (i := 4) (some 27) rfl rfl (by kernel_rfl) (by kernel_rfl) (by kernel_rfl) (by kernel_rfl) (fun _ _ _ _ h => h) (by rfl) hS ?_
      apply Exists.intro
      refine ⟨fun w' hw' => ?_, ?_⟩
      · (obtain ⟨q1, q2, q3⟩ := hw')
        go_simp
        first | done | rfl
      try simp only [Act.put, List.setIfInBounds_toArray, List.set_cons_zero, List.set_cons_succ]
      have KO := kidsOf_any H2.out HAT.out
      rw [← HI.out] at KO
      have HKO := hide KO
      clear KO
      refine UntH.step (i := 3) (by kernel_rfl) rfl (fun K hK => ?_)
      go_simp
      refine HKO.out.mono ?_
      rintro e w3 ⟨g, cp, G', rfl, m3, gw3, z3, np3, gg3, k3⟩
      have pbk : pb ≠ c.kb := fun e => by
        obtain ⟨es, cl, h1⟩ := H2.out.kid.blk
        rw [← e, NB2.out] at h1
        cases h1
      obtain ⟨b1, b2, b3⟩ := m3.boxes HX.out
      have hS3 : w3.cell? ⟨mb, 0, none⟩ = some (.pointer (some ⟨c.mm, 0, none⟩)) ∧ w3.cell? ⟨pb, 0, none⟩ = some (.int .i64 f) ∧ w3.cell? ⟨cb, 0, none⟩ = some (.int .i64 (k : Int)) := ⟨b1, by rw [cell_of_row _ _ _ _ _ _ ((k3.block pb (lt_of_block NB2.out) pbk).trans NB2.out)]; rfl, b3⟩
      go_simp
      refine hK _ _ hS3 ?_
      have M3 := hide m3
      have GW3 := hide gw3
      have K3 := hide (KW2.out.trans k3)
      have q9 := z3.cell HKL.out
      clear hK K HKO m3 gw3 k3 z3 b1 b2 b3 np3 gg3
      refine UntH.step (i := 5) (by kernel_rfl) rfl (fun K hK => ?_)
      go_simp
      refine hK _ _ hS3 ?_
      clear hK K
      refine UntH.step (i := 6) (by kernel_rfl) rfl (fun K hK => ?_)
      go_simp
      refine hK _ _ hS3 ?_
      clear hK K
      refine UntH.take (i := 7) (some 5) rfl rfl (by kernel_rfl) (by kernel_rfl) (by kernel_rfl) (by kernel_rfl) (fun _ _ _ _ h => h) (by rfl) hS3 ?_
      apply Exists.intro
      refine ⟨fun w' hw' => ?_, ?_⟩
      · skip
        go_simp
        first | done | rfl
      try simp only [Act.put, List.setIfInBounds_toArray, List.set_cons_zero, List.set_cons_succ]
      refine UntH.last (by kernel_rfl) rfl (by kernel_rfl) (by kernel_rfl) (fun K hK => ?_)
      go_simp
      refine hK _ _ ?_
      clear hK K hS3 hS
      go_wp2
      go_ret2
      exact ⟨_, true, G', rfl, M3.out, fun b hb => (GW3.out b hb).imp id (Nat.le_trans KW2.out.size), K3.out, FIN.out⟩
    · have h2' : (x == (l : Int)) = false := by simpa using h2
      have FIN := hide (rs_high ok HF.out HO.out HQ.out HK.out (by rw [HXX.out]; omega))
      clear ok
      go_wp2
      go_ret2
      exact ⟨f, true, G, rfl, H1.out, Gw.refl _ _, KW.out, FIN.out⟩
theorem rsc_c {mb lb cb : Nat} (hkv : c.kv = .func (.func 61) #[] #[.pointer (some ⟨mb, 0, none⟩), .pointer (some ⟨lb, 0, none⟩), .pointer (some ⟨cb, 0, none⟩)]) (hx : c.xs = bxs c.mm mb lb cb l k) (ho : c.op = fun a _ => a) (hq : c.q = fun p => upd p l k) (hz : c.Z = True) (hl : l < c.S.length) (hk : (k : Int) < c.S.getD l 0) :
    KnC c 61 [.pointer (some ⟨mb, 0, none⟩), .pointer (some ⟨lb, 0, none⟩), .pointer (some ⟨cb, 0, none⟩)] :=
  ⟨hkv, fun args w => rfl, ⟨fun p hp => by rw [hq]; exact hp.upd hk, fun p p' l' h j h1 h2 => by
    rw [hq]
    show upd p l k j = upd p' l k j
    by_cases e : j = l
    · subst e; rw [upd_at, upd_at]
    · rw [upd_ne p k e, upd_ne p' k e]; exact h j h1 h2⟩, fun w N P G f g ms hf hg hgz => by
    have e : g = 0 := hgz (by rw [hz]; exact trivial)
    subst e
    exact rsc_any ms hf hx ho hq hl hk⟩
end
end Go.Proofs.Ytaafeflbanoncaa
