/-
  The program's arena: its calls, by what they say of the list of nodes. Condition: lists no longer than a process can hold.
-/
import Derived.Test.YtaafeflbanoncaaP08
import Derived.Test.YtaafeflbanoncaaP09
import Derived.Test.YtaafeflbanoncaaP10
import Derived.Test.YtaafeflbanoncaaP07
import Derived.DeepKeys4
import Derived.Test.YtaafeflbanoncaaP02
namespace Go.Proofs.Ytaafeflbanoncaa
open Go.RowKit Go.Lib Go.Maps

section
variable {w w' : World} {a x : Nat} {S : List Int} {M : Int} {N : List Nd} {m : Nat} {P Q : Nat → Prop}
theorem CA.make (h : CA w a S M N m P) (lv : Int) (ao : Option Addr) (cap : Nat) (A : List Int) (hl : A.length ≤ 140737488351232) (hz : ZAt w ao A) (hm : m ≤ 1152921504606846976) :
    Calls Try.prog 56 #[.pointer (some ⟨a, 0, none⟩), .int .i64 lv, .slice ao A.length cap] w fun e w' => MkL S M N lv A w e w' (fun N' P' V => CA V a S M N' (m + 1) P') P := by
  obtain ⟨R, sb, sc, nv, mb, h1, rfl⟩ := h
  exact makeC_any lv ao cap A hl hz h1 hm
theorem CA.node (h : CA w a S M N m P) (f : Int) : Calls Try.prog 21 #[.pointer (some ⟨a, 0, none⟩), .int .i64 f] w fun e w' => NdL N f w e w' := by
  obtain ⟨R, sb, sc, nv, mb, h1, rfl⟩ := h
  exact nodeC_any f h1
theorem CA.level (h : CA w a S M N m P) (f : Int) : Calls Try.prog 62 #[.pointer (some ⟨a, 0, none⟩), .int .i64 f] w fun e w' => e = .returned (.int .i64 (lvl S N f)) ∧ w' = w := by
  obtain ⟨R, sb, sc, nv, mb, h1, rfl⟩ := h
  exact level_any f h1
theorem CA.has (h : CA w a S M N m P) (f : Int) : Calls Try.prog 78 #[.pointer (some ⟨a, 0, none⟩), .int .i64 f] w fun e w' => e = .returned (.bool (hasN N.length f)) ∧ w' = w := by
  obtain ⟨R, sb, sc, nv, mb, h1, rfl⟩ := h
  rw [List.length_map]
  exact has_any f h1
theorem CA.len (h : CA w a S M N m P) : Calls Try.prog 20 #[.pointer (some ⟨a, 0, none⟩)] w fun e w' => e = .returned (.int .i64 (N.length : Int)) ∧ w' = w := by
  obtain ⟨R, sb, sc, nv, mb, h1, rfl⟩ := h
  rw [List.length_map]
  exact len_any h1
theorem CA.sizes (h : CA w a S M N m P) : Calls Try.prog 49 #[.pointer (some ⟨a, 0, none⟩)] w fun e w' => (∃ g c, e = .returned (.slice (some ⟨g, 0, none⟩) S.length c) ∧ w'.ownsRow w.heap.size 3 1 (.slice (some ⟨g, 0, none⟩) S.length c) S.length (zC S) ∧ ZBk w' g S ∧ w.heap.size ≤ g) ∧ Below w.heap.size w w' := by
  obtain ⟨R, sb, sc, nv, mb, h1, rfl⟩ := h
  exact sizes_any h1
theorem CA.back (h : CA w a S M N m P) (n : Int) : Calls Try.prog 36 #[.pointer (some ⟨a, 0, none⟩), .int .i64 n] w fun e w' => BkL N n w e w' (fun N' V => CA V a S M N' m P) P := by
  obtain ⟨R, sb, sc, nv, mb, h1, rfl⟩ := h
  exact backC_any n h1
end
/-- May, looked at. -/
def mayB (S : List Int) (N : List Nd) (lv : Int) (ks : List Int) : Bool := decide (0 ≤ lv) && decide (lv < (S.length : Int)) && decide ((ks.length : Int) = S.getD lv.toNat 0) && ks.all fun f => decide (hasR N f) && decide (lv < lvl S N f)
theorem mayB_iff (S : List Int) (N : List Nd) (lv : Int) (ks : List Int) : mayB S N lv ks = true ↔ May S N lv ks := by
  unfold mayB
  simp only [Bool.and_eq_true, decide_eq_true_eq, List.all_eq_true]
  exact ⟨fun h => ⟨h.1.1.1, h.1.1.2, h.1.2, h.2⟩, fun h => ⟨⟨⟨h.ge, h.lt⟩, h.len⟩, h.kid⟩⟩
theorem may_no {S : List Int} {N : List Nd} {lv : Int} {ks : List Int} (h : mayB S N lv ks = false) : ¬ May S N lv ks := fun k => by
  rw [(mayB_iff S N lv ks).2 k] at h
  cases h
end Go.Proofs.Ytaafeflbanoncaa
/-
  Keys that are pairs of refs, or refs; maps whose keys are known are no larger than these; a slice as a map's element. Of the program its types alone: no condition.
-/
namespace Go.Proofs.Ytaafeflbanoncaa
open Go.RowKit Go.Lib Go.Maps

theorem size_types : Try.prog.types.size = 151 := by kernel_rfl
theorem cells100 : Try.prog.cellsOf 100 = 2 ∧ Try.prog.cellsOf 3 = 1 := ⟨by kernel_rfl, by kernel_rfl⟩
theorem ktype100 : Try.prog.keyType 100 = true := by kernel_rfl
theorem wfI (z : Int) (h0 : 0 ≤ z) (h1 : z ≤ 4294967296) : (Lit.int .i64 z).wf = true := by simp [Lit.wf, IntKind.min, IntKind.max, IntKind.signed, IntKind.bits]; omega
theorem i64_key (z : Int) (h0 : 0 ≤ z) (h1 : z ≤ 4294967296) (d : Nat) : Try.prog.keyLits (d + 1) 3 [.int .i64 z] = some [.int .i64 z] := by
  unfold Program.keyLits
  simp only [Try.underlying3]
  rw [if_pos ⟨trivial, wfI z h0 h1⟩]
theorem keyOf_pair (f g : Int) (h0 : 0 ≤ f) (h1 : f ≤ 4294967296) (g0 : 0 ≤ g) (g1 : g ≤ 4294967296) : ∃ l, keyOf Try.prog 100 (.agg #[.int .i64 f, .int .i64 g]) = some l := by
  obtain ⟨c1, c3⟩ := cells100
  have hlits : ∃ ls, Try.prog.keyLits (Try.prog.types.size + 1) 100 [.int .i64 f, .int .i64 g] = some ls := by
    rw [size_types]
    unfold Program.keyLits
    simp only [Try.underlying100]
    rw [if_pos ⟨by rw [c1]; rfl, by first | (simp; done) | kernel_rfl⟩]
    simp only [List.mapM_cons, List.mapM_nil, c3]
    have e1 : (([.int .i64 f, .int .i64 g] : List Value).drop 0).take 1 = [.int .i64 f] := rfl
    have e2 : (([.int .i64 f, .int .i64 g] : List Value).drop 1).take 1 = [.int .i64 g] := rfl
    simp only [e1, e2, i64_key f h0 h1, i64_key g g0 g1]
    exact ⟨_, rfl⟩
  obtain ⟨ls, hls⟩ := hlits
  unfold keyOf
  simp only [Try.underlying100]
  rw [if_pos (by
    rw [ktype100]
    simp [Value.formed, Try.underlying100, c1])]
  have e : (Value.agg #[.int .i64 f, .int .i64 g]).cells.toList = [.int .i64 f, .int .i64 g] := rfl
  rw [e, hls]
  exact ⟨_, rfl⟩
theorem keyed100 : Keyed Try.prog 100 := Keyed.of_law (deep_law_laid (m := 152) (by kernel_rfl) (by decide) (by rw [size_types]; decide) (by kernel_rfl) (by simp [Try.underlying100]))
theorem keyed3 : Keyed Try.prog 3 := int_keyed Try.underlying3
/-- A pair's key. -/
noncomputable def keyP (f g : Int) : Lit := (keyOf Try.prog 100 (.agg #[.int .i64 f, .int .i64 g])).getD (.bool false)
theorem keyP_is {f g : Int} (h0 : 0 ≤ f) (h1 : f ≤ 4294967296) (g0 : 0 ≤ g) (g1 : g ≤ 4294967296) : keyOf Try.prog 100 (.agg #[.int .i64 f, .int .i64 g]) = some (keyP f g) := by
  obtain ⟨l, hl⟩ := keyOf_pair f g h0 h1 g0 g1
  unfold keyP
  rw [hl]
  rfl
theorem key_of {v : Value} {l : Lit} (h : keyOf Try.prog 100 v = some l) : WideAt.IsKeyLit l := keyed100.key h
theorem keyP_key {f g : Int} (h0 : 0 ≤ f) (h1 : f ≤ 4294967296) (g0 : 0 ≤ g) (g1 : g ≤ 4294967296) {l : Lit} (e : keyP f g = l) : WideAt.IsKeyLit l := by
  have h := keyP_is h0 h1 g0 g1
  rw [e] at h
  exact key_of h
theorem keyP_inj {f g f' g' : Int} (h0 : 0 ≤ f) (h1 : f ≤ 4294967296) (g0 : 0 ≤ g) (g1 : g ≤ 4294967296) (h0' : 0 ≤ f') (h1' : f' ≤ 4294967296) (g0' : 0 ≤ g') (g1' : g' ≤ 4294967296) (e : keyP f g = keyP f' g') : f = f' ∧ g = g' := by
  have a := keyP_is h0 h1 g0 g1
  have b := keyP_is h0' h1' g0' g1'
  rw [e] at a
  have := keyed100.inj a b
  simp only [Value.agg.injEq, Array.mk.injEq, List.cons.injEq, Value.int.injEq] at this
  exact ⟨this.1.2, this.2.1.2⟩
theorem keyI_is {f : Int} (h0 : 0 ≤ f) (h1 : f ≤ 4294967296) : keyOf Try.prog 3 (.int .i64 f) = some (.int .i64 f) := keyOf_int_mk Try.underlying3 (wfI f h0 h1)
/-- A list without doubles is no longer than one that has all of it. -/
theorem sub_len {α : Type} : ∀ (l K : List α), l.Nodup → (∀ x ∈ l, x ∈ K) → l.length ≤ K.length := by
  classical
  intro l
  induction l with
  | nil => intro K _ _; simp
  | cons a l ih =>
    intro K hn hs
    have ha := hs a (by simp)
    obtain ⟨hna, hnl⟩ := List.nodup_cons.1 hn
    have := ih (K.erase a) hnl (fun x hx => (List.mem_erase_of_ne (fun e => by subst e; exact hna hx)).2 (hs x (by simp [hx])))
    rw [List.length_erase_of_mem ha] at this
    have hp := List.length_pos_of_mem ha
    rw [List.length_cons]
    omega
/-- A map whose keys are known. -/
theorem ownsMap_tight {H : Type} {P : Program} {k : TypeId} {R : Value → Option (DataW H × List MemPlace)} {w : World} {b n : Nat} {D : DataW H} (h : w.ownsMap P k R b n D) (Ky : Keyed P k) (K : List Lit) (hK : ∀ kl, Maps.has D kl = true → kl ∈ K) : w.ownsMap P k R b K.length D := by
  obtain ⟨es, hD, hp⟩ := h.tidy Ky
  obtain ⟨es', cl, h1, F, h3, h4⟩ := h
  have hkeys : ∀ y ∈ es, WideAt.IsKeyLit y.1 := fun y hy => by
    have e : es = (es'.toList.map (WideElems.rg P k R)).foldr DataW.insert [] := by
      rw [h4] at hD
      injection hD with hD
      exact hD.symm
    rw [e] at hy
    obtain ⟨v, hv⟩ := Maps.fit_keys F y ((WideShapes.sorted_perm _).mem_iff.1 hy)
    exact Ky.key hv
  have hlen : Maps.size D ≤ K.length := by
    rw [hD, size_eq]
    have := sub_len (es.map (·.1)) K (by rw [List.nodup_iff_pairwise_ne, List.pairwise_map]; exact hp) (fun x hx => by
      obtain ⟨y, hy, rfl⟩ := List.mem_map.1 hx
      refine hK _ ?_
      rw [hD, has_eq, List.any_eq_true]
      refine ⟨y, hy, ?_⟩
      have h5 := notKey_iff (p := y) (hkeys y hy)
      cases e : y.1.sameKey y.1
      · exact absurd rfl (h5.1 (by unfold ChangeMaps.notKey; rw [e]; rfl))
      · rfl)
    rwa [List.length_map] at this
  refine ⟨es', cl, h1, F, ?_, h4⟩
  rw [h4] at hlen
  simpa [Maps.size, length_sorted] using hlen
/-- A slice that begins where its block does, as a map's element. -/
def slRd : Value → Option (DataW Unit × List MemPlace)
  | .slice none 0 0 => some (.nil, [])
  | .slice (some ⟨g, 0, none⟩) n c => some (.agg [.lit (.int .i64 (g : Int)), .lit (.int .i64 (n : Int)), .lit (.int .i64 (c : Int))], [])
  | _ => none
def slD (g n c : Nat) : DataW Unit := .agg [.lit (.int .i64 (g : Int)), .lit (.int .i64 (n : Int)), .lit (.int .i64 (c : Int))]
theorem slRd_nil : slRd (.slice none 0 0) = some (.nil, []) := rfl
theorem slRd_mk (g n c : Nat) : slRd (.slice (some ⟨g, 0, none⟩) n c) = some (slD g n c, []) := rfl
theorem slRd_inv {v : Value} {g n c : Nat} {ps : List MemPlace} (h : slRd v = some (slD g n c, ps)) : v = .slice (some ⟨g, 0, none⟩) n c := by
  unfold slRd at h
  split at h
  · simp [slD] at h
  · simp only [slD, Option.some.injEq, Prod.mk.injEq, DataW.agg.injEq, List.cons.injEq, DataW.lit.injEq, Lit.int.injEq, true_and, and_true] at h
    obtain ⟨⟨h1, h2, h3⟩, _⟩ := h
    have e1 := Int.ofNat.inj h1
    have e2 := Int.ofNat.inj h2
    have e3 := Int.ofNat.inj h3
    rw [e1, e2, e3]
  · cases h
end Go.Proofs.Ytaafeflbanoncaa
/-
  What is made where a function of points is laid into an arena: one thing, however it is come to. In pure words; of no program: no condition.
-/
namespace Go.Proofs.Ytaafeflbanoncaa
open Go.RowKit

abbrev Phi := (Nat → Nat) → Bool
/-- A ref that says it. -/
def Rep (S : List Int) (N : List Nd) (φ : Phi) (r : Int) : Prop := hasR N r ∧ ∀ p, Pnt S p → sayR N p r = φ p
/-- It hangs on the levels from l on alone. -/
def Hang (S : List Int) (φ : Phi) (l : Nat) : Prop := ∀ p p', Pnt S p → Pnt S p' → (∀ j, l ≤ j → j < S.length → p j = p' j) → φ p = φ p'
def cutP (φ : Phi) (l c : Nat) : Phi := fun p => φ (upd p l c)
def Alike (S : List Int) (φ ψ : Phi) : Prop := ∀ p, Pnt S p → φ p = ψ p
/-- Make, as a function. -/
noncomputable def mkF (S : List Int) (M : Int) (N : List Nd) (lv : Int) (ks : List Int) : Int × Int × List Nd := by
  classical
  exact if ¬ May S N lv ks then (0, 1, N) else if One ks then (ks.getD 0 0, 0, N) else if h : ∃ i : Nat, N[i]? = some (lv, ks) then ((h.choose : Int) + 2, 0, N) else if M ≤ (N.length : Int) then (0, 2, N) else ((N.length : Int) + 2, 0, N ++ [(lv, ks)])
theorem mkF_P (S : List Int) (M : Int) (N : List Nd) (lv : Int) (ks : List Int) : MkP S M N lv ks (mkF S M N lv ks).1 (mkF S M N lv ks).2.1 (mkF S M N lv ks).2.2 := by
  classical
  unfold mkF
  by_cases h1 : May S N lv ks
  · rw [if_neg (fun h => h h1)]
    by_cases h2 : One ks
    · rw [if_pos h2]; exact .inr (.inl ⟨h1, h2, rfl, rfl, rfl⟩)
    · rw [if_neg h2]
      by_cases h3 : ∃ i : Nat, N[i]? = some (lv, ks)
      · rw [dif_pos h3]; exact .inr (.inr (.inl ⟨h1, h2, ⟨h3.choose, h3.choose_spec, rfl⟩, rfl, rfl⟩))
      · rw [dif_neg h3]
        have h4 : (lv, ks) ∉ N := fun h => by
          obtain ⟨i, hi, e⟩ := List.getElem_of_mem h
          exact h3 ⟨i, by rw [List.getElem?_eq_getElem hi, e]⟩
        by_cases h5 : M ≤ (N.length : Int)
        · rw [if_pos h5]; exact .inr (.inr (.inr (.inl ⟨h1, h2, h4, h5, rfl, rfl, rfl⟩)))
        · rw [if_neg h5]; exact .inr (.inr (.inr (.inr ⟨h1, h2, h4, by omega, rfl, rfl, rfl⟩)))
  · rw [if_pos h1]; exact .inl ⟨h1, rfl, rfl, rfl⟩
theorem mkF_of {S : List Int} {M : Int} {N N' : List Nd} {lv f e : Int} {ks : List Int} (h : N.Nodup) (k : MkP S M N lv ks f e N') : mkF S M N lv ks = (f, e, N') := by
  obtain ⟨a, b, c⟩ := MkP.one h (mkF_P S M N lv ks) k
  rw [← a, ← b, ← c]
/-- Several, one after the other, as long as there is room. -/
def kidsF (step : List Nd → Phi → Int × Int × List Nd) : List Nd → List Phi → List Int × Int × List Nd
  | N, [] => ([], 0, N)
  | N, φ :: t => if (step N φ).2.1 = 0 then (if (kidsF step (step N φ).2.2 t).2.1 = 0 then ((step N φ).1 :: (kidsF step (step N φ).2.2 t).1, 0, (kidsF step (step N φ).2.2 t).2.2) else ([], (kidsF step (step N φ).2.2 t).2.1, (kidsF step (step N φ).2.2 t).2.2)) else ([], (step N φ).2.1, (step N φ).2.2)
def cuts (S : List Int) (φ : Phi) (l : Nat) : List Phi := (List.range (S.getD l 0).toNat).map (cutP φ l)
noncomputable def expF (S : List Int) (M : Int) (step : List Nd → Phi → Int × Int × List Nd) (N : List Nd) (φ : Phi) (l : Nat) : Int × Int × List Nd :=
  if (kidsF step N (cuts S φ l)).2.1 = 0 then mkF S M (kidsF step N (cuts S φ l)).2.2 (l : Int) (kidsF step N (cuts S φ l)).1 else (0, (kidsF step N (cuts S φ l)).2.1, (kidsF step N (cuts S φ l)).2.2)
noncomputable def can (S : List Int) (M : Int) : Nat → List Nd → Phi → Int × Int × List Nd
  | 0, N, φ => by classical exact if h : ∃ r, Rep S N φ r then (h.choose, 0, N) else (0, 0, N)
  | d + 1, N, φ => by classical exact if h : ∃ r, Rep S N φ r then (h.choose, 0, N) else expF S M (can S M d) N φ (S.length - (d + 1))
section
variable {S : List Int} {M : Int} {N N' T : List Nd} {p : Nat → Nat} {f g r : Int} {φ ψ : Phi} {d l : Nat}
theorem Rep.one (h : Ok S M N) (a : Rep S N φ r) (b : Rep S N φ f) : r = f := h.canon a.1 b.1 (fun p hp => (a.2 p hp).trans (b.2 p hp).symm)
theorem Rep.alike (a : Rep S N φ r) (h : Alike S φ ψ) : Rep S N ψ r := ⟨a.1, fun p hp => (a.2 p hp).trans (h p hp)⟩
theorem Rep.app (h : Ok S M N) (a : Rep S N φ r) : Rep S (N ++ T) φ r := ⟨hasR_app a.1, fun p hp => by rw [sayR_app h hp a.1]; exact a.2 p hp⟩
theorem Alike.symm (h : Alike S φ ψ) : Alike S ψ φ := fun p hp => (h p hp).symm
theorem can_rep (h : Ok S M N) (a : Rep S N φ r) : can S M d N φ = (r, 0, N) := by
  have h0 : ∃ r, Rep S N φ r := ⟨r, a⟩
  have e : h0.choose = r := Rep.one h h0.choose_spec a
  cases d with
  | zero => unfold can; rw [dif_pos h0, e]
  | succ d => unfold can; rw [dif_pos h0, e]
theorem can_exp (h : ¬ ∃ r, Rep S N φ r) : can S M (d + 1) N φ = expF S M (can S M d) N φ (S.length - (d + 1)) := by
  rw [can, dif_neg h]
/-- A function that hangs on no level. -/
theorem Hang.const (h : SzOk S) (a : Hang S φ S.length) : ∃ r, Rep S N φ r := by
  have e : ∀ p, Pnt S p → φ p = φ (fun _ => 0) := fun p hp => a p _ hp (Pnt.zero h) (fun j h1 h2 => by omega)
  cases hz : φ (fun _ => 0)
  · exact ⟨0, ⟨by omega, by omega⟩, fun p hp => by rw [e p hp, hz, sayR_low (by omega)]; rfl⟩
  · exact ⟨1, ⟨by omega, by omega⟩, fun p hp => by rw [e p hp, hz, sayR_low (by omega)]; rfl⟩
theorem Hang.mono (a : Hang S φ l) {l' : Nat} (h : l' ≤ l) : Hang S φ l' := fun p p' hp hp' hj => a p p' hp hp' (fun j h1 h2 => hj j (by omega) h2)
theorem Hang.cut (a : Hang S φ l) {c : Nat} (hc : (c : Int) < S.getD l 0) : Hang S (cutP φ l c) (l + 1) := fun p p' hp hp' hj => a _ _ (hp.upd hc) (hp'.upd hc) (fun j h1 h2 => by
  by_cases e : j = l
  · subst e; rw [upd_at, upd_at]
  · rw [upd_ne p c e, upd_ne p' c e]; exact hj j (by omega) h2)
theorem Hang.same (a : Hang S φ (l + 1)) {c : Nat} (hc : (c : Int) < S.getD l 0) : Alike S (cutP φ l c) φ := fun p hp => a _ _ (hp.upd hc) hp (fun j h1 h2 => upd_ne p c (by omega))
theorem Hang.alike (a : Hang S φ l) (h : Alike S φ ψ) : Hang S ψ l := fun p p' hp hp' hj => by rw [← h p hp, ← h p' hp']; exact a p p' hp hp' hj
/-- What a ref says hangs on the levels from its own on. -/
theorem say_hang (h : Ok S M N) : ∀ (k : Nat) (f : Int), f.toNat ≤ k → hasR N f → ∀ l : Nat, (l : Int) ≤ lvl S N f → Hang S (fun p => sayR N p f) l := by
  intro k
  induction k with
  | zero => intro f h1 hf l _ p p' _ _ _; have := hf.1; show sayR N p f = sayR N p' f; rw [sayR_low (by omega), sayR_low (by omega)]
  | succ k ih =>
    intro f h1 hf l hl p p' hp hp' hj
    show sayR N p f = sayR N p' f
    by_cases h2 : 2 ≤ f
    · obtain ⟨l', ks, hn⟩ := h.ndAt h2 hf.2
      have e := hn.lev
      rw [hn.says h hp h2 hf.2, hn.says h hp' h2 hf.2, ← hj l' (by omega) hn.lt]
      obtain ⟨k0, k1, k2⟩ := hn.kid (p l') (hn.cls hp)
      exact ih _ (by omega) ⟨k0, by have := hf.2; omega⟩ l (by omega) p p' hp hp' hj
    · rw [sayR_low h2, sayR_low h2]
theorem cuts_length : (cuts S φ l).length = (S.getD l 0).toNat := by simp [cuts]
theorem cuts_mem {ψ : Phi} (h : ψ ∈ cuts S φ l) : ∃ c : Nat, (c : Int) < S.getD l 0 ∧ ψ = cutP φ l c := by
  obtain ⟨c, hc, rfl⟩ := List.mem_map.1 h
  exact ⟨c, by have := List.mem_range.1 hc; omega, rfl⟩
/-- What came of it. -/
structure Out (S : List Int) (M : Int) (N : List Nd) (φ : Phi) (l : Nat) (x : Int × Int × List Nd) : Prop where
  ok : Ok S M x.2.2
  ext : ∃ T, x.2.2 = N ++ T
  res : (x.2.1 = 0 ∧ Rep S x.2.2 φ x.1 ∧ (l : Int) ≤ lvl S x.2.2 x.1) ∨ (x.2.1 = 2 ∧ x.1 = 0)
/-- What came of several. -/
structure OutK (S : List Int) (M : Int) (N : List Nd) (fs : List Phi) (l : Nat) (x : List Int × Int × List Nd) : Prop where
  ok : Ok S M x.2.2
  ext : ∃ T, x.2.2 = N ++ T
  res : (x.2.1 = 0 ∧ x.1.length = fs.length ∧ ∀ i (h : i < fs.length), Rep S x.2.2 fs[i] (x.1.getD i 0) ∧ (l : Int) ≤ lvl S x.2.2 (x.1.getD i 0)) ∨ (x.2.1 = 2 ∧ x.1 = [])
theorem kids_out {step : List Nd → Phi → Int × Int × List Nd} : ∀ (fs : List Phi) (N : List Nd), Ok S M N → (∀ φ ∈ fs, ∀ N, Ok S M N → Out S M N φ l (step N φ)) → OutK S M N fs l (kidsF step N fs)
  | [], N, h, _ => ⟨h, ⟨[], by simp [kidsF]⟩, .inl ⟨rfl, rfl, fun i h => by cases h⟩⟩
  | φ :: t, N, h, hs => by
    have o1 := hs φ (by simp) N h
    obtain ⟨T1, e1⟩ := o1.ext
    unfold kidsF
    generalize step N φ = x at *
    rcases o1.res with ⟨h1, h2, h3⟩ | ⟨h1, h2⟩
    · have o2 := kids_out t x.2.2 o1.ok (fun ψ hψ => hs ψ (by simp [hψ]))
      rw [if_pos h1]
      obtain ⟨T2, e2⟩ := o2.ext
      generalize kidsF step x.2.2 t = y at *
      rcases o2.res with ⟨g1, g2, g3⟩ | ⟨g1, g2⟩
      · rw [if_pos g1]
        refine ⟨o2.ok, ⟨T1 ++ T2, by rw [e2, e1, List.append_assoc]⟩, .inl ⟨rfl, by simp [g2], fun i hi => ?_⟩⟩
        cases i with
        | zero =>
          show Rep S y.2.2 φ x.1 ∧ (l : Int) ≤ lvl S y.2.2 x.1
          rw [e2]
          exact ⟨h2.app o1.ok, by rw [lvl_app h2.1]; exact h3⟩
        | succ i => exact g3 i (by simpa using hi)
      · rw [if_neg (by omega)]
        exact ⟨o2.ok, ⟨T1 ++ T2, by rw [e2, e1, List.append_assoc]⟩, .inr ⟨g1, rfl⟩⟩
    · rw [if_neg (by omega)]
      exact ⟨o1.ok, ⟨T1, e1⟩, .inr ⟨h1, rfl⟩⟩
/-- An expansion at a level. -/
theorem exp_out {step : List Nd → Phi → Int × Int × List Nd} (h : Ok S M N) (hl : l < S.length) (hs : ∀ c : Nat, (c : Int) < S.getD l 0 → ∀ N, Ok S M N → Out S M N (cutP φ l c) (l + 1) (step N (cutP φ l c))) : Out S M N φ l (expF S M step N φ l) := by
  have hsz := h.sz.each _ (show S.getD l 0 ∈ S by rw [List.getD_eq_getElem?_getD, List.getElem?_eq_getElem hl]; exact List.getElem_mem _)
  have o := kids_out (l := l + 1) (cuts S φ l) N h (fun ψ hψ N hN => by obtain ⟨c, hc, rfl⟩ := cuts_mem hψ; exact hs c hc N hN)
  unfold expF
  obtain ⟨T, eT⟩ := o.ext
  rcases o.res with ⟨h1, h2, h3⟩ | ⟨h1, h2⟩
  · rw [if_pos h1]
    generalize kidsF step N (cuts S φ l) = y at *
    have hlen : (y.1.length : Int) = S.getD l 0 := by rw [h2, cuts_length]; omega
    have hget : ∀ i, i < y.1.length → Rep S y.2.2 (cutP φ l i) (y.1.getD i 0) ∧ ((l + 1 : Nat) : Int) ≤ lvl S y.2.2 (y.1.getD i 0) := fun i hi => by
      have := h3 i (by rw [← h2]; exact hi)
      have e : (cuts S φ l)[i]'(by rw [← h2]; exact hi) = cutP φ l i := by simp [cuts]
      rwa [e] at this
    have hmay : May S y.2.2 (l : Int) y.1 := ⟨by omega, by omega, by rw [Int.toNat_natCast]; exact hlen, fun x hx => by
      obtain ⟨i, hi, rfl⟩ := List.getElem_of_mem hx
      have e : y.1.getD i 0 = y.1[i] := by rw [List.getD_eq_getElem?_getD, List.getElem?_eq_getElem hi]; rfl
      have := hget i hi
      rw [e] at this
      exact ⟨this.1.1, by omega⟩⟩
    have mk := mkF_P S M y.2.2 (l : Int) y.1
    generalize mkF S M y.2.2 (l : Int) y.1 = z at *
    have hpos : 0 < y.1.length := by omega
    have hok := mk.ok o.ok
    have hor : z.2.1 = 0 ∨ (z.2.1 = 2 ∧ z.1 = 0 ∧ z.2.2 = y.2.2) := by
      rcases mk with ⟨h1, _⟩ | ⟨_, _, _, h1, _⟩ | ⟨_, _, _, h1, _⟩ | ⟨_, _, _, _, h1, h2, h3⟩ | ⟨_, _, _, _, _, h1, _⟩
      · exact absurd hmay h1
      · exact .inl h1
      · exact .inl h1
      · exact .inr ⟨h2, h1, h3⟩
      · exact .inl h1
    rcases hor with h0 | ⟨h0, h4, h5⟩
    · rw [h0] at mk
      have hT : ∃ T', z.2.2 = y.2.2 ++ T' := by
        rcases mk with ⟨h1, _⟩ | ⟨_, _, _, _, h1⟩ | ⟨_, _, _, _, h1⟩ | ⟨_, _, _, _, _, h1, _⟩ | ⟨_, _, _, _, _, _, h1⟩
        · exact absurd hmay h1
        · exact ⟨[], by rw [h1]; simp⟩
        · exact ⟨[], by rw [h1]; simp⟩
        · omega
        · exact ⟨_, h1⟩
      obtain ⟨T', eT'⟩ := hT
      refine ⟨hok, ⟨T ++ T', by rw [eT', eT, List.append_assoc]⟩, .inl ⟨h0, ⟨(MkP.says o.ok (Pnt.zero h.sz) mk).1, fun p hp => ?_⟩, ?_⟩⟩
      · rw [(MkP.says o.ok hp mk).2.1, Int.toNat_natCast]
        have hc : p l < y.1.length := by have := hp l hl; omega
        rw [(hget _ hc).1.2 p hp]
        unfold cutP
        congr 1
        funext j
        by_cases e : j = l
        · subst e; rw [upd_at]
        · rw [upd_ne p _ e]
      · rcases mk with ⟨h1, _⟩ | ⟨m, o1, h6, _, h7⟩ | ⟨m, o1, ⟨i, hi, h6⟩, _, h7⟩ | ⟨_, _, _, _, _, h1, _⟩ | ⟨m, o1, hn, hl1, h6, _, h7⟩
        · exact absurd hmay h1
        · rw [h6, h7]
          have := (hget 0 hpos).2
          omega
        · rw [h6, h7, lvl_at hi]; omega
        · omega
        · rw [h6, h7, lvl_at (lv := (l : Int)) (ks := y.1) (i := y.2.2.length) (by simp)]; omega
    · exact ⟨hok, ⟨T, by rw [h5, eT]⟩, .inr ⟨h0, h4⟩⟩
  · rw [if_neg (by omega)]
    exact ⟨o.ok, ⟨T, eT⟩, .inr ⟨h1, rfl⟩⟩
end
end Go.Proofs.Ytaafeflbanoncaa
