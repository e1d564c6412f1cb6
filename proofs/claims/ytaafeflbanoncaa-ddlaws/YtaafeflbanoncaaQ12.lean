/-
  The program's arena: its calls, by what they say of the list of nodes. Condition: lists no longer than a process can hold.
-/
import Derived.Test.YtaafeflbanoncaaQ09
import Derived.Test.YtaafeflbanoncaaQ10
import Derived.Test.YtaafeflbanoncaaQ11
import Derived.Test.YtaafeflbanoncaaQ08
import Derived.DeepKeys4
namespace Go.Proofs.Ytaafeflbanoncaa
open Go.RowKit Go.Lib Go.Maps

section
variable {w w' : World} {a x : Nat} {S : List Int} {M : Int} {N : List Nd} {m : Nat} {P Q : Nat → Prop}
theorem CA.make (h : CA w a S M N m P) (lv : Int) (ao : Option Addr) (cap : Nat) (A : List Int) (hl : A.length ≤ 140737488351232) (hz : ZAt w ao A) (hm : m ≤ 1152921504606846976) :
    Calls Try.prog 56 #[.pointer (some ⟨a, 0, none⟩), .int .i64 lv, .slice ao A.length cap] w fun e w' => MkL S M N lv A w e w' (fun N' P' V => CA V a S M N' (m + 1) P') P := by
  obtain ⟨R, sb, sc, nv, mb, h1, rfl⟩ := h
  exact makeC_any lv ao cap A hl hz h1 hm
theorem CA.node (h : CA w a S M N m P) (f : Int) : Calls Try.prog 21 #[.pointer (some ⟨a, 0, none⟩), .int .i64 f] w fun e w' => NdL N f w e w' := by
  obtain ⟨R, sb, sc, nv, mb, h1, rfl⟩ := h
  exact nodeC_any f h1
theorem CA.level (h : CA w a S M N m P) (f : Int) : Calls Try.prog 62 #[.pointer (some ⟨a, 0, none⟩), .int .i64 f] w fun e w' => e = .returned (.int .i64 (lvl S N f)) ∧ w' = w := by
  obtain ⟨R, sb, sc, nv, mb, h1, rfl⟩ := h
  exact level_any f h1
theorem CA.has (h : CA w a S M N m P) (f : Int) : Calls Try.prog 78 #[.pointer (some ⟨a, 0, none⟩), .int .i64 f] w fun e w' => e = .returned (.bool (hasN N.length f)) ∧ w' = w := by
  obtain ⟨R, sb, sc, nv, mb, h1, rfl⟩ := h
  rw [List.length_map]
  exact has_any f h1
theorem CA.len (h : CA w a S M N m P) : Calls Try.prog 20 #[.pointer (some ⟨a, 0, none⟩)] w fun e w' => e = .returned (.int .i64 (N.length : Int)) ∧ w' = w := by
  obtain ⟨R, sb, sc, nv, mb, h1, rfl⟩ := h
  rw [List.length_map]
  exact len_any h1
theorem CA.sizes (h : CA w a S M N m P) : Calls Try.prog 49 #[.pointer (some ⟨a, 0, none⟩)] w fun e w' => (∃ g c, e = .returned (.slice (some ⟨g, 0, none⟩) S.length c) ∧ w'.ownsRow w.heap.size 3 1 (.slice (some ⟨g, 0, none⟩) S.length c) S.length (zC S) ∧ ZBk w' g S ∧ w.heap.size ≤ g) ∧ Below w.heap.size w w' := by
  obtain ⟨R, sb, sc, nv, mb, h1, rfl⟩ := h
  exact sizes_any h1
theorem CA.back (h : CA w a S M N m P) (n : Int) : Calls Try.prog 36 #[.pointer (some ⟨a, 0, none⟩), .int .i64 n] w fun e w' => BkL N n w e w' (fun N' V => CA V a S M N' m P) P := by
  obtain ⟨R, sb, sc, nv, mb, h1, rfl⟩ := h
  exact backC_any n h1
end
/-- May, looked at. -/
def mayB (S : List Int) (N : List Nd) (lv : Int) (ks : List Int) : Bool := decide (0 ≤ lv) && decide (lv < (S.length : Int)) && decide ((ks.length : Int) = S.getD lv.toNat 0) && ks.all fun f => decide (hasR N f) && decide (lv < lvl S N f)
theorem mayB_iff (S : List Int) (N : List Nd) (lv : Int) (ks : List Int) : mayB S N lv ks = true ↔ May S N lv ks := by
  unfold mayB
  simp only [Bool.and_eq_true, decide_eq_true_eq, List.all_eq_true]
  exact ⟨fun h => ⟨h.1.1.1, h.1.1.2, h.1.2, h.2⟩, fun h => ⟨⟨⟨h.ge, h.lt⟩, h.len⟩, h.kid⟩⟩
theorem may_no {S : List Int} {N : List Nd} {lv : Int} {ks : List Int} (h : mayB S N lv ks = false) : ¬ May S N lv ks := fun k => by
  rw [(mayB_iff S N lv ks).2 k] at h
  cases h
end Go.Proofs.Ytaafeflbanoncaa
/-
  Keys that are pairs of refs, or refs; maps whose keys are known are no larger than these; a slice as a map's element. Of the program its types alone: no condition.
-/
namespace Go.Proofs.Ytaafeflbanoncaa
open Go.RowKit Go.Lib Go.Maps

theorem size_types : Try.prog.types.size = 151 := by kernel_rfl
theorem cells100 : Try.prog.cellsOf 100 = 2 ∧ Try.prog.cellsOf 3 = 1 := ⟨by kernel_rfl, by kernel_rfl⟩
theorem ktype100 : Try.prog.keyType 100 = true := by kernel_rfl
theorem wfI (z : Int) (h0 : 0 ≤ z) (h1 : z ≤ 4294967296) : (Lit.int .i64 z).wf = true := by simp [Lit.wf, IntKind.min, IntKind.max, IntKind.signed, IntKind.bits]; omega
theorem i64_key (z : Int) (h0 : 0 ≤ z) (h1 : z ≤ 4294967296) (d : Nat) : Try.prog.keyLits (d + 1) 3 [.int .i64 z] = some [.int .i64 z] := by
  unfold Program.keyLits
  simp only [Try.underlying3]
  rw [if_pos ⟨trivial, wfI z h0 h1⟩]
theorem keyOf_pair (f g : Int) (h0 : 0 ≤ f) (h1 : f ≤ 4294967296) (g0 : 0 ≤ g) (g1 : g ≤ 4294967296) : ∃ l, keyOf Try.prog 100 (.agg #[.int .i64 f, .int .i64 g]) = some l := by
  obtain ⟨c1, c3⟩ := cells100
  have hlits : ∃ ls, Try.prog.keyLits (Try.prog.types.size + 1) 100 [.int .i64 f, .int .i64 g] = some ls := by
    rw [size_types]
    unfold Program.keyLits
    simp only [Try.underlying100]
    rw [if_pos ⟨by rw [c1]; rfl, by first | (simp; done) | kernel_rfl⟩]
    simp only [List.mapM_cons, List.mapM_nil, c3]
    have e1 : (([.int .i64 f, .int .i64 g] : List Value).drop 0).take 1 = [.int .i64 f] := rfl
    have e2 : (([.int .i64 f, .int .i64 g] : List Value).drop 1).take 1 = [.int .i64 g] := rfl
    simp only [e1, e2, i64_key f h0 h1, i64_key g g0 g1]
    exact ⟨_, rfl⟩
  obtain ⟨ls, hls⟩ := hlits
  unfold keyOf
  simp only [Try.underlying100]
  rw [if_pos (by
    rw [ktype100]
    simp [Value.formed, Try.underlying100, c1])]
  have e : (Value.agg #[.int .i64 f, .int .i64 g]).cells.toList = [.int .i64 f, .int .i64 g] := rfl
  rw [e, hls]
  exact ⟨_, rfl⟩
theorem keyed100 : Keyed Try.prog 100 := Keyed.of_law (deep_law_laid (m := 152) (by kernel_rfl) (by decide) (by rw [size_types]; decide) (by kernel_rfl) (by simp [Try.underlying100]))
theorem keyed3 : Keyed Try.prog 3 := int_keyed Try.underlying3
/-- A pair's key. -/
noncomputable def keyP (f g : Int) : Lit := (keyOf Try.prog 100 (.agg #[.int .i64 f, .int .i64 g])).getD (.bool false)
theorem keyP_is {f g : Int} (h0 : 0 ≤ f) (h1 : f ≤ 4294967296) (g0 : 0 ≤ g) (g1 : g ≤ 4294967296) : keyOf Try.prog 100 (.agg #[.int .i64 f, .int .i64 g]) = some (keyP f g) := by
  obtain ⟨l, hl⟩ := keyOf_pair f g h0 h1 g0 g1
  unfold keyP
  rw [hl]
  rfl
theorem key_of {v : Value} {l : Lit} (h : keyOf Try.prog 100 v = some l) : WideAt.IsKeyLit l := keyed100.key h
theorem keyP_key {f g : Int} (h0 : 0 ≤ f) (h1 : f ≤ 4294967296) (g0 : 0 ≤ g) (g1 : g ≤ 4294967296) {l : Lit} (e : keyP f g = l) : WideAt.IsKeyLit l := by
  have h := keyP_is h0 h1 g0 g1
  rw [e] at h
  exact key_of h
theorem keyP_inj {f g f' g' : Int} (h0 : 0 ≤ f) (h1 : f ≤ 4294967296) (g0 : 0 ≤ g) (g1 : g ≤ 4294967296) (h0' : 0 ≤ f') (h1' : f' ≤ 4294967296) (g0' : 0 ≤ g') (g1' : g' ≤ 4294967296) (e : keyP f g = keyP f' g') : f = f' ∧ g = g' := by
  have a := keyP_is h0 h1 g0 g1
  have b := keyP_is h0' h1' g0' g1'
  rw [e] at a
  have := keyed100.inj a b
  simp only [Value.agg.injEq, Array.mk.injEq, List.cons.injEq, Value.int.injEq] at this
  exact ⟨this.1.2, this.2.1.2⟩
theorem keyI_is {f : Int} (h0 : 0 ≤ f) (h1 : f ≤ 4294967296) : keyOf Try.prog 3 (.int .i64 f) = some (.int .i64 f) := keyOf_int_mk Try.underlying3 (wfI f h0 h1)
/-- A list without doubles is no longer than one that has all of it. -/
theorem sub_len {α : Type} : ∀ (l K : List α), l.Nodup → (∀ x ∈ l, x ∈ K) → l.length ≤ K.length := by
  classical
  intro l
  induction l with
  | nil => intro K _ _; simp
  | cons a l ih =>
    intro K hn hs
    have ha := hs a (by simp)
    obtain ⟨hna, hnl⟩ := List.nodup_cons.1 hn
    have := ih (K.erase a) hnl (fun x hx => (List.mem_erase_of_ne (fun e => by subst e; exact hna hx)).2 (hs x (by simp [hx])))
    rw [List.length_erase_of_mem ha] at this
    have hp := List.length_pos_of_mem ha
    rw [List.length_cons]
    omega
/-- A map whose keys are known. -/
theorem ownsMap_tight {H : Type} {P : Program} {k : TypeId} {R : Value → Option (DataW H × List MemPlace)} {w : World} {b n : Nat} {D : DataW H} (h : w.ownsMap P k R b n D) (Ky : Keyed P k) (K : List Lit) (hK : ∀ kl, Maps.has D kl = true → kl ∈ K) : w.ownsMap P k R b K.length D := by
  obtain ⟨es, hD, hp⟩ := h.tidy Ky
  obtain ⟨es', cl, h1, F, h3, h4⟩ := h
  have hkeys : ∀ y ∈ es, WideAt.IsKeyLit y.1 := fun y hy => by
    have e : es = (es'.toList.map (WideElems.rg P k R)).foldr DataW.insert [] := by
      rw [h4] at hD
      injection hD with hD
      exact hD.symm
    rw [e] at hy
    obtain ⟨v, hv⟩ := Maps.fit_keys F y ((WideShapes.sorted_perm _).mem_iff.1 hy)
    exact Ky.key hv
  have hlen : Maps.size D ≤ K.length := by
    rw [hD, size_eq]
    have := sub_len (es.map (·.1)) K (by rw [List.nodup_iff_pairwise_ne, List.pairwise_map]; exact hp) (fun x hx => by
      obtain ⟨y, hy, rfl⟩ := List.mem_map.1 hx
      refine hK _ ?_
      rw [hD, has_eq, List.any_eq_true]
      refine ⟨y, hy, ?_⟩
      have h5 := notKey_iff (p := y) (hkeys y hy)
      cases e : y.1.sameKey y.1
      · exact absurd rfl (h5.1 (by unfold ChangeMaps.notKey; rw [e]; rfl))
      · rfl)
    rwa [List.length_map] at this
  refine ⟨es', cl, h1, F, ?_, h4⟩
  rw [h4] at hlen
  simpa [Maps.size, length_sorted] using hlen
/-- A slice that begins where its block does, as a map's element. -/
def slRd : Value → Option (DataW Unit × List MemPlace)
  | .slice none 0 0 => some (.nil, [])
  | .slice (some ⟨g, 0, none⟩) n c => some (.agg [.lit (.int .i64 (g : Int)), .lit (.int .i64 (n : Int)), .lit (.int .i64 (c : Int))], [])
  | _ => none
def slD (g n c : Nat) : DataW Unit := .agg [.lit (.int .i64 (g : Int)), .lit (.int .i64 (n : Int)), .lit (.int .i64 (c : Int))]
theorem slRd_nil : slRd (.slice none 0 0) = some (.nil, []) := rfl
theorem slRd_mk (g n c : Nat) : slRd (.slice (some ⟨g, 0, none⟩) n c) = some (slD g n c, []) := rfl
theorem slRd_inv {v : Value} {g n c : Nat} {ps : List MemPlace} (h : slRd v = some (slD g n c, ps)) : v = .slice (some ⟨g, 0, none⟩) n c := by
  unfold slRd at h
  split at h
  · simp [slD] at h
  · simp only [slD, Option.some.injEq, Prod.mk.injEq, DataW.agg.injEq, List.cons.injEq, DataW.lit.injEq, Lit.int.injEq, true_and, and_true] at h
    obtain ⟨⟨h1, h2, h3⟩, _⟩ := h
    have e1 := Int.ofNat.inj h1
    have e2 := Int.ofNat.inj h2
    have e3 := Int.ofNat.inj h3
    rw [e1, e2, e3]
  · cases h
end Go.Proofs.Ytaafeflbanoncaa
