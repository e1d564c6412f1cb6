/-
  A region that draws its order, while its last operation has not come up: what is read may be read first. Of no program: no condition.
-/
import Derived.Test.YtaafeflbanoncaaGrowK
import Derived.Laws.Rows
import Derived.Deep.RegionHeld3
namespace Go.Proofs.Ytaafeflbanoncaa
open Go.RowKit Go.Lib

section
variable {P : Program} {ops : Array Oper} {Q : Exit → Act → World → Prop} {md : Region.Mode} {S : World → Prop} {z : Nat}
/-- Whatever comes up, S holds behind it as long as operation z has not come up. -/
def UntH (P : Program) (md : Region.Mode) (ops : Array Oper) (Q : Exit → Act → World → Prop) (S : World → Prop) (z : Nat) : Nat → Array Bool → Act → World → Prop
  | 0, done, a, w => Region.ready md ops done = [] ∧ Q .normal a w
  | n + 1, done, a, w => (Region.ready md ops done = [] → Q .normal a w) ∧ ∀ i ∈ Region.ready md ops done, wpOp P ops Q i (fun a' w' => ((done.setIfInBounds i true).getD z true = false → S w') ∧ UntH P md ops Q S z n (done.setIfInBounds i true) a' w') a w
theorem UntH.any : ∀ (n : Nat) (done : Array Bool) (a : Act) (w : World), UntH P md ops Q S z n done a w → wpAny P md ops Q n done a w
  | 0, _, _, _, h => h
  | n + 1, _, _, _, h => ⟨h.1, fun i hi => wpOp_mono (fun a' w' k => UntH.any n _ a' w' k.2) (h.2 i hi)⟩
/-- The operations that wait for operation i, or for one that does. -/
def upOf (md : Region.Mode) (ops : Array Oper) (i : Nat) : List Nat :=
  (List.range ops.size).foldl (fun C c => match ops[c]? with
    | some o => if o.after.any (fun e => Region.binds md e && (e.on == i || C.contains e.on)) then c :: C else C
    | none => C) []
def upOk (md : Region.Mode) (ops : Array Oper) (done : Array Bool) (i z : Nat) (C : List Nat) : Bool :=
  C.contains z && !C.contains i && C.all fun c => !done.getD c true && match ops[c]? with
    | some o => o.after.any fun e => Region.binds md e && (e.on == i || C.contains e.on)
    | none => false
theorem UntH.first {i : Nat} {oi : Oper} {v : Value} {C : List Nat} (hi : ops[i]? = some oi) (hzC : z ∈ C) (hiC : i ∉ C) (hC : ∀ c ∈ C, ∃ oc, ops[c]? = some oc ∧ ∃ e ∈ oc.after, Region.binds md e = true ∧ (e.on = i ∨ e.on ∈ C)) (hsel : ∀ (j : Nat) (o : Oper) cs b, ops[j]? = some o → o.op ≠ .select cs b) (hQ : ∀ c a w, Q (.panic c) (a.put oi.dst v) w → Q (.panic c) a w) :
    ∀ (n : Nat) (done : Array Bool) (a : Act) (w : World), (∀ c ∈ C, done.getD c true = false) → (∀ j oj, ops[j]? = some oj → j ≠ i → done.getD j true = false → (∀ e ∈ oj.after, Region.binds md e = true → e.on ≠ i) → oi.apart ops oj = true) →
      i ∈ Region.ready md ops done → YieldsIf P ops S oi v a → S w → UntH P md ops Q S z n (done.setIfInBounds i true) (a.put oi.dst v) w → UntH P md ops Q S z (n + 1) done a w := by
  intro n
  induction n with
  | zero =>
    intro done a w _ _ hr hy hS H
    refine ⟨fun h => (by rw [h] at hr; cases hr), fun j hj => ?_⟩
    by_cases hji : j = i
    · subst hji; exact hy.wpOp hi hS ⟨fun _ => hS, H⟩
    · have h1 := ready_mono hj hji
      rw [H.1] at h1
      cases h1
  | succ n ih =>
    intro done a w hzu hfree hr hy hS H
    refine ⟨fun h => (by rw [h] at hr; cases hr), fun j hj => ?_⟩
    by_cases hji : j = i
    · subst hji; exact hy.wpOp hi hS ⟨fun _ => hS, H⟩
    · have h1 := H.2 j (ready_mono hj hji)
      obtain ⟨hjun, oj, hoj, hall⟩ := mem_ready.1 hj
      have hun : ¬ done.getD i false = true := fun h => by
        have h0 := (mem_ready.1 hr).1
        rcases Nat.lt_or_ge i done.size with h' | h'
        · simp [h'] at h0 h; rw [h0] at h; cases h
        · simp [Array.getElem?_eq_none h'] at h
      have hno : ∀ e ∈ oj.after, Region.binds md e = true → e.on ≠ i := fun e he hb heq => hun (by rw [← heq]; exact hall e he hb)
      have hjC : j ∉ C := fun hjC => by
        obtain ⟨oc, h1, x, x1, x2, x3⟩ := hC j hjC
        rw [hoj] at h1
        cases h1
        rcases x3 with x3 | x3
        · exact hno x x1 x2 x3
        · have h2 := hall x x1 x2
          have h3 := hzu _ x3
          rcases Nat.lt_or_ge x.on done.size with h' | h'
          · simp [h'] at h2 h3; rw [h2] at h3; cases h3
          · simp [Array.getElem?_eq_none h'] at h2
      have hzu2 : ∀ c ∈ C, (done.setIfInBounds j true).getD c true = false := fun c hc => by
        have hne : j ≠ c := fun e => hjC (by rw [e]; exact hc)
        rw [getD_set_ne true hne]
        exact hzu c hc
      have hzu3 : ((done.setIfInBounds i true).setIfInBounds j true).getD z true = false := by
        have hn1 : j ≠ z := fun e => hjC (by rw [e]; exact hzC)
        have hn2 : i ≠ z := fun e => hiC (by rw [e]; exact hzC)
        rw [getD_set_ne true hn1, getD_set_ne true hn2]
        exact hzu z hzC
      have h2 := wpOp_putIf hoj (hfree j oj hoj hji hjun hno) (fun cs b => hsel i oi cs b hi) (fun cs b => hsel j oj cs b hoj) hQ hy h1
      have hfree' : ∀ k ok, ops[k]? = some ok → k ≠ i → (done.setIfInBounds j true).getD k true = false → (∀ e ∈ ok.after, Region.binds md e = true → e.on ≠ i) → oi.apart ops ok = true := fun k ok hk hki hu hn => by
        refine hfree k ok hk hki ?_ hn
        by_cases hjk : j = k
        · subst hjk; exact hjun
        · rw [getD_set_ne true hjk] at hu; exact hu
      refine wpOp_mono (fun a' w' h3 => ?_) h2
      have hS' := h3.2.1 hzu3
      refine ⟨fun _ => hS', ih (done.setIfInBounds j true) a' w' hzu2 hfree' (ready_mono hr (Ne.symm hji)) h3.1 hS' ?_⟩
      rw [Array.setIfInBounds_comm _ _ hji]
      exact h3.2.2
/-- One that may be read is read first. -/
theorem UntH.take {i n : Nat} {oi : Oper} {done : Array Bool} {a : Act} {w : World} (d : Option Nat) (hi : ops[i]? = some oi) (hd : oi.dst = d) (hz : upOk md ops done i z (upOf md ops i) = true) (hs : Region.noSelect ops = true) (hf : Region.free md ops done i = true) (hr : (Region.ready md ops done).contains i = true)
    (hQ : ∀ v c a w, Q (.panic c) (a.put oi.dst v) w → Q (.panic c) a w) (hw : Region.wanted oi (yielded ops a.tmps) = true) (hS : S w) (h : ∃ v, (∀ w', S w' → (execOp a.eval oi).run P w' = .ok (.value v) w') ∧ UntH P md ops Q S z n (done.setIfInBounds i true) (a.put d v) w) : UntH P md ops Q S z (n + 1) done a w := by
  obtain ⟨v, h1, h2⟩ := h
  rw [← hd] at h2
  revert hz
  generalize upOf md ops i = C
  intro hz
  simp only [upOk, Bool.and_eq_true, List.all_eq_true, Bool.not_eq_true', List.contains_iff_mem] at hz
  obtain ⟨⟨hz1, hz2⟩, hz3⟩ := hz
  refine UntH.first (C := C) hi hz1 ?_ ?_ (Region.noSelect_spec hs) (hQ v) n done a w (fun c hc => (hz3 c hc).1) (Region.free_spec hi hf) (by simpa using hr) (.inl ⟨hw, h1⟩) hS h2
  · intro h0
    rw [List.contains_iff_mem.2 h0] at hz2
    cases hz2
  · intro c hc
    have h3 := (hz3 c hc).2
    cases ho : ops[c]? with
    | none => rw [ho] at h3; cases h3
    | some o =>
      rw [ho] at h3
      obtain ⟨k, hk, e⟩ := Array.any_eq_true.1 h3
      simp only [Bool.and_eq_true, Bool.or_eq_true, beq_iff_eq, List.contains_iff_mem] at e
      exact ⟨o, rfl, o.after[k], Array.getElem_mem hk, e.1, e.2⟩
/-- Only one may come up. -/
theorem UntH.one {i n : Nat} {done : Array Bool} {a : Act} {w : World} (hr : Region.ready md ops done = [i]) (h : wpOp P ops Q i (fun a' w' => ((done.setIfInBounds i true).getD z true = false → S w') ∧ UntH P md ops Q S z n (done.setIfInBounds i true) a' w') a w) : UntH P md ops Q S z (n + 1) done a w :=
  ⟨fun h0 => (by rw [hr] at h0; cases h0), fun j hj => by
    rw [hr] at hj
    obtain rfl := List.mem_singleton.1 hj
    exact h⟩
theorem UntH.step {i n : Nat} {o : Oper} {done : Array Bool} {a : Act} {w : World} (hr : Region.ready md ops done = [i]) (ho : ops[i]? = some o) (h : ∀ K' : Act → World → Prop, Shut (∀ a w, S w → UntH P md ops Q S z n (done.setIfInBounds i true) a w → K' a w) → if Region.wanted o (yielded ops a.tmps) = true then Oper.wp P o a w K' Q else K' (a.put o.dst undef) w) : UntH P md ops Q S z (n + 1) done a w :=
  UntH.one hr (wpOp_step ho (fun K' hK => h K' (fun a w h1 h2 => hK a w ⟨fun _ => h1, h2⟩)))
theorem UntH.last {n : Nat} {o : Oper} {done : Array Bool} {a : Act} {w : World} (hr : Region.ready md ops done = [z]) (ho : ops[z]? = some o) (hr2 : Region.ready md ops (done.setIfInBounds z true) = []) (hz : (done.setIfInBounds z true).getD z true = true) (h : ∀ K' : Act → World → Prop, Shut (∀ a w, Q .normal a w → K' a w) → if Region.wanted o (yielded ops a.tmps) = true then Oper.wp P o a w K' Q else K' (a.put o.dst undef) w) : UntH P md ops Q S z (n + 1) done a w :=
  UntH.one hr (wpOp_step ho (fun K' hK => h K' (fun a w h1 => hK a w ⟨fun h2 => (by rw [hz] at h2; cases h2), by
    cases n with
    | zero => exact ⟨hr2, h1⟩
    | succ n => exact ⟨fun _ => h1, fun j hj => by rw [hr2] at hj; cases hj⟩⟩)))
theorem UntH.end {n : Nat} {done : Array Bool} {a : Act} {w : World} (hr : Region.ready md ops done = []) (h : Q .normal a w) : UntH P md ops Q S z n done a w := by
  cases n with
  | zero => exact ⟨hr, h⟩
  | succ n => exact ⟨fun _ => h, fun j hj => by rw [hr] at hj; cases hj⟩
theorem wp_unt {id : Nat} {a : Act} {w : World} (z : Nat) (hm : P.follows .mixedOrders = true) (h : UntH P .any ops Q S z ops.size (Array.replicate ops.size false) a w.drew) : (Code.region id ops true).wp P Q a w := wp_region_any hm (UntH.any _ _ _ _ h)
end
end Go.Proofs.Ytaafeflbanoncaa
