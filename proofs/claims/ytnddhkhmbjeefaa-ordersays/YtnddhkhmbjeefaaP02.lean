/-
  Lists that came out, each in a block of its own: all marked, then grown one by one, each looked at K times; what was looked at stays. Of no program: no condition.
-/
import Derived.Test.YtnddhkhmbjeefaaP01
import Derived.Laws.Rows
import Derived.Deep.RegionHeld3
import Derived.Below
namespace Go.Proofs.Ytnddhkhmbjeefaa
open Go.RowKit Go.Lib

section
variable {K : Nat} {TS T : TypeId} {sz : Nat} {mc : Nat → List Value}

/-- Between two lists: i have been grown, and looked at K times each. -/
structure KrO (K : Nat) (TS T : TypeId) (sz : Nat) (mc : Nat → List Value) (w : World) (base : Nat) (l o : Value) (D : List LD) (A : List LD) (i : Nat) : Prop where
  row : w.ownsRow base TS 1 l D.length (D.map LD.v)
  all : w.ownsRow base TS 1 o A.length (A.map LD.v)
  ol : ∀ k, o.ownBlock = some k → ¬ l.ownBlock = some k
  len : A.length = K * i
  views : ∀ j (hj : j < A.length), Vw T sz mc w (A[j]).v (A[j]).n (j / K) ∧ ∀ k, (A[j]).v.ownBlock = some k → ¬ FutL D i k
  lists : ∀ i' (h : i' < D.length), i ≤ i' → w.ownsRow base T sz (D[i']).v (D[i']).n (rep mc i' (D[i']).n)
  apart : ApartL D
/-- Within the i-th: x is what it has grown to. -/
structure Kr (K : Nat) (TS T : TypeId) (sz : Nat) (mc : Nat → List Value) (w : World) (base : Nat) (l o : Value) (D : List LD) (A : List LD) (i q : Nat) (x : Value) (nx : Nat) : Prop where
  row : w.ownsRow base TS 1 l D.length (D.map LD.v)
  all : w.ownsRow base TS 1 o A.length (A.map LD.v)
  ol : ∀ k, o.ownBlock = some k → ¬ l.ownBlock = some k
  len : A.length = K * i + q
  views : ∀ j (hj : j < A.length), Vw T sz mc w (A[j]).v (A[j]).n (j / K) ∧ ∀ k, (A[j]).v.ownBlock = some k → ¬ FutL D (i + 1) k ∧ (x.ownBlock = some k → j / K = i ∧ (A[j]).n ≤ nx)
  own : w.ownsRow base T sz x nx (rep mc i nx)
  xf : ∀ k, x.ownBlock = some k → ¬ FutL D (i + 1) k
  lists : ∀ i' (h : i' < D.length), i + 1 ≤ i' → w.ownsRow base T sz (D[i']).v (D[i']).n (rep mc i' (D[i']).n)
  apart : ApartL D

theorem KrO.below {w w' : World} {base : Nat} {l o : Value} {D A : List LD} {i : Nat} (h : KrO K TS T sz mc w base l o D A i) (hb : Below w.heap.size w w') : KrO K TS T sz mc w' base l o D A i :=
  ⟨own_below h.row hb, own_below h.all hb, h.ol, h.len, fun j hj => ⟨(h.views j hj).1.below hb, (h.views j hj).2⟩, fun i' h1 h2 => own_below (h.lists i' h1 h2) hb, h.apart⟩
theorem Kr.below {w w' : World} {base : Nat} {l o : Value} {D A : List LD} {i q : Nat} {x : Value} {nx : Nat} (h : Kr K TS T sz mc w base l o D A i q x nx) (hb : Below w.heap.size w w') : Kr K TS T sz mc w' base l o D A i q x nx :=
  ⟨own_below h.row hb, own_below h.all hb, h.ol, h.len, fun j hj => ⟨(h.views j hj).1.below hb, (h.views j hj).2⟩, own_below h.own hb, h.xf, fun i' h1 h2 => own_below (h.lists i' h1 h2) hb, h.apart⟩
theorem KrO.start {w : World} {base : Nat} {l : Value} {D : List LD} (h : LsAt TS T sz w base l D (fun i => rep mc i ((D[i]?.map LD.n).getD 0))) : KrO K TS T sz mc w base l (.slice none 0 0) D [] 0 :=
  ⟨h.row, World.ownsRow_nil w base TS 1, fun k hk => (by cases hk), rfl, fun j hj => (by simp at hj), fun i' h1 _ => by have := h.each i' h1; simpa [h1] using this, h.apart⟩
theorem KrO.enter {w : World} {base : Nat} {l o : Value} {D A : List LD} {i : Nat} (h : KrO K TS T sz mc w base l o D A i) (hi : i < D.length) : Kr K TS T sz mc w base l o D A i 0 (D[i]).v (D[i]).n := by
  refine ⟨h.row, h.all, h.ol, h.len, fun j hj => ⟨(h.views j hj).1, fun k hk => ⟨fun ⟨i', h1, h2, h3⟩ => (h.views j hj).2 k hk ⟨i', h1, by omega, h3⟩, fun hx => ?_⟩⟩, h.lists i hi (Nat.le_refl _), fun k hk => ?_, fun i' h1 h2 => h.lists i' h1 (by omega), h.apart⟩
  · exact absurd ⟨i, hi, Nat.le_refl _, hx⟩ ((h.views j hj).2 k hk)
  · rintro ⟨i', h1, h2, h3⟩
    exact h.apart.ne hi h1 (by omega) hk h3
theorem Kr.leave {w : World} {base : Nat} {l o : Value} {D A : List LD} {i : Nat} {x : Value} {nx : Nat} (h : Kr K TS T sz mc w base l o D A i K x nx) : KrO K TS T sz mc w base l o D A (i + 1) :=
  ⟨h.row, h.all, h.ol, by have := h.len; rw [Nat.mul_succ]; exact this, fun j hj => ⟨(h.views j hj).1, fun k hk => ((h.views j hj).2 k hk).1⟩, h.lists, h.apart⟩
/-- all = append(all, x) -/
theorem Kr.push (hmc : ∀ i, (mc i).length = sz) (hne : TS ≠ T) {w w' : World} {base : Nat} {l o o' : Value} {D A : List LD} {i q : Nat} {x : Value} {nx : Nat} (h : Kr K TS T sz mc w base l o D A i q x nx) (hq : q < K)
    (h1 : w'.ownsRow base TS 1 o' (A.length + 1) (A.map LD.v ++ [x])) (h2 : AppAt w w' o o') : Kr K TS T sz mc w' base l o' D (A ++ [⟨x, nx⟩]) i (q + 1) x nx := by
  have hk : ∃ F : Nat → Prop, Kept F w w' ∧ (∀ k, F k → o.ownBlock = some k) := by
    rcases h2 with ⟨g, a, b, c⟩ | ⟨a, b⟩
    · exact ⟨fun k => some g = some k, kept_of_grown c, fun k hk => a.trans hk⟩
    · exact ⟨fun _ => False, Kept.of_below (below_of_grown a), fun k hk => hk.elim⟩
  obtain ⟨F, hk, hF⟩ := hk
  refine ⟨own_kept h.row hk (fun k h3 h4 => h.ol k (hF k h4) h3), by rw [List.map_append, List.length_append]; exact h1, ?_, by rw [List.length_append, h.len]; rfl, ?_, own_kept h.own hk (fun k h3 h4 => own_ne h.all h.own hne k (hF k h4) h3), h.xf, fun i' h3 h4 => own_kept (h.lists i' h3 h4) hk (fun k h5 h6 => own_ne h.all (h.lists i' h3 h4) hne k (hF k h6) h5), h.apart⟩
  · intro k hk'
    rcases h2 with ⟨g, a, b, c⟩ | ⟨a, b⟩
    · rw [b] at hk'
      exact h.ol k (a.trans hk')
    · intro hl
      have := b k hk'
      have := (World.ownsRow.lt h.row k hl).2
      omega
  · intro j hj
    by_cases hja : j < A.length
    · rw [List.getElem_append_left hja]
      obtain ⟨v1, v2⟩ := h.views j hja
      refine ⟨v1.kept hk (fun k h3 h4 => ?_), v2⟩
      obtain ⟨cs, h5⟩ := v1.ty k h3
      obtain ⟨cs', h6⟩ := own_ty h.all k (hF k h4)
      rw [h5] at h6
      simp at h6
      exact hne h6.2.symm
    · have hje : j = A.length := by rw [List.length_append] at hj; simp at hj; omega
      subst hje
      rw [List.getElem_append_right (Nat.le_refl _)]
      simp only [Nat.sub_self, List.getElem_cons_zero]
      rw [h.len, show (K * i + q) / K = i by rw [Nat.mul_add_div (by omega), Nat.div_eq_of_lt hq, Nat.add_zero]]
      exact ⟨(Vw.of_own hmc h.own).kept hk (fun k h3 h4 => own_ne h.all h.own hne k (hF k h4) h3), fun k hk => ⟨h.xf k hk, fun _ => ⟨rfl, Nat.le_refl _⟩⟩⟩
/-- x = append(x, a mark) -/
theorem Kr.grow (hmc : ∀ i, (mc i).length = sz) (hne : TS ≠ T) {w w' : World} {base : Nat} {l o : Value} {D A : List LD} {i q : Nat} {x x' : Value} {nx : Nat} (h : Kr K TS T sz mc w base l o D A i q x nx)
    (h1 : w'.ownsRow base T sz x' (nx + 1) (rep mc i nx ++ mc i)) (h2 : AppAt w w' x x') : Kr K TS T sz mc w' base l o D A i q x' (nx + 1) := by
  rw [← rep_succ] at h1
  rcases h2 with ⟨g, a, b, c⟩ | ⟨a, b⟩
  · have hk := kept_of_grown c
    refine ⟨own_kept h.row hk (fun k h3 h4 => ?_), own_kept h.all hk (fun k h3 h4 => ?_), h.ol, h.len, fun j hj => ?_, h1, fun k hk' => h.xf k (by rw [a]; rw [b] at hk'; exact hk'), fun i' h3 h4 => own_kept (h.lists i' h3 h4) hk (fun k h5 h6 => ?_), h.apart⟩
    · cases h4
      exact own_ne h.row h.own hne g h3 a
    · cases h4
      exact own_ne h.all h.own hne g h3 a
    · obtain ⟨v1, v2⟩ := h.views j hj
      refine ⟨?_, fun k hk' => ⟨(v2 k hk').1, fun hx => ?_⟩⟩
      · by_cases hb : (A[j]).v.ownBlock = some g
        · obtain ⟨e1, e2⟩ := (v2 g hb).2 a
          rw [e1] at v1 ⊢
          exact v1.short hmc hb b h1 (by omega)
        · exact v1.kept hk (fun k h3 h4 => hb (h3.trans h4.symm))
      · have := (v2 k hk').2 (by rw [a]; rw [b] at hx; exact hx)
        exact ⟨this.1, by omega⟩
    · cases h6
      exact h.xf g a ⟨i', h3, h4, h5⟩
  · have hb := below_of_grown a
    refine ⟨own_below h.row hb, own_below h.all hb, h.ol, h.len, fun j hj => ?_, h1, fun k hk => ?_, fun i' h3 h4 => own_below (h.lists i' h3 h4) hb, h.apart⟩
    · obtain ⟨v1, v2⟩ := h.views j hj
      refine ⟨v1.below hb, fun k hk' => ⟨(v2 k hk').1, fun hx => ?_⟩⟩
      have := v1.lt k hk'
      have := b k hx
      omega
    · rintro ⟨i', h3, h4, h5⟩
      have := (World.ownsRow.lt (h.lists i' h3 h4) k h5).2
      have := b k hk
      omega
end
end Go.Proofs.Ytnddhkhmbjeefaa
/-
  A region that draws its order, while its last operation has not come up: what is read may be read first. Of no program: no condition.
-/
namespace Go.Proofs.Ytnddhkhmbjeefaa
open Go.RowKit Go.Lib

section
variable {P : Program} {ops : Array Oper} {Q : Exit → Act → World → Prop} {md : Region.Mode} {S : World → Prop} {z : Nat}
/-- Whatever comes up, S holds behind it as long as operation z has not come up. -/
def UntH (P : Program) (md : Region.Mode) (ops : Array Oper) (Q : Exit → Act → World → Prop) (S : World → Prop) (z : Nat) : Nat → Array Bool → Act → World → Prop
  | 0, done, a, w => Region.ready md ops done = [] ∧ Q .normal a w
  | n + 1, done, a, w => (Region.ready md ops done = [] → Q .normal a w) ∧ ∀ i ∈ Region.ready md ops done, wpOp P ops Q i (fun a' w' => ((done.setIfInBounds i true).getD z true = false → S w') ∧ UntH P md ops Q S z n (done.setIfInBounds i true) a' w') a w
theorem UntH.any : ∀ (n : Nat) (done : Array Bool) (a : Act) (w : World), UntH P md ops Q S z n done a w → wpAny P md ops Q n done a w
  | 0, _, _, _, h => h
  | n + 1, _, _, _, h => ⟨h.1, fun i hi => wpOp_mono (fun a' w' k => UntH.any n _ a' w' k.2) (h.2 i hi)⟩
/-- The operations that wait for operation i, or for one that does. -/
def upOf (md : Region.Mode) (ops : Array Oper) (i : Nat) : List Nat :=
  (List.range ops.size).foldl (fun C c => match ops[c]? with
    | some o => if o.after.any (fun e => Region.binds md e && (e.on == i || C.contains e.on)) then c :: C else C
    | none => C) []
def upOk (md : Region.Mode) (ops : Array Oper) (done : Array Bool) (i z : Nat) (C : List Nat) : Bool :=
  C.contains z && !C.contains i && C.all fun c => !done.getD c true && match ops[c]? with
    | some o => o.after.any fun e => Region.binds md e && (e.on == i || C.contains e.on)
    | none => false
theorem UntH.first {i : Nat} {oi : Oper} {v : Value} {C : List Nat} (hi : ops[i]? = some oi) (hzC : z ∈ C) (hiC : i ∉ C) (hC : ∀ c ∈ C, ∃ oc, ops[c]? = some oc ∧ ∃ e ∈ oc.after, Region.binds md e = true ∧ (e.on = i ∨ e.on ∈ C)) (hsel : ∀ (j : Nat) (o : Oper) cs b, ops[j]? = some o → o.op ≠ .select cs b) (hQ : ∀ c a w, Q (.panic c) (a.put oi.dst v) w → Q (.panic c) a w) :
    ∀ (n : Nat) (done : Array Bool) (a : Act) (w : World), (∀ c ∈ C, done.getD c true = false) → (∀ j oj, ops[j]? = some oj → j ≠ i → done.getD j true = false → (∀ e ∈ oj.after, Region.binds md e = true → e.on ≠ i) → oi.apart ops oj = true) →
      i ∈ Region.ready md ops done → YieldsIf P ops S oi v a → S w → UntH P md ops Q S z n (done.setIfInBounds i true) (a.put oi.dst v) w → UntH P md ops Q S z (n + 1) done a w := by
  intro n
  induction n with
  | zero =>
    intro done a w _ _ hr hy hS H
    refine ⟨fun h => (by rw [h] at hr; cases hr), fun j hj => ?_⟩
    by_cases hji : j = i
    · subst hji; exact hy.wpOp hi hS ⟨fun _ => hS, H⟩
    · have h1 := ready_mono hj hji
      rw [H.1] at h1
      cases h1
  | succ n ih =>
    intro done a w hzu hfree hr hy hS H
    refine ⟨fun h => (by rw [h] at hr; cases hr), fun j hj => ?_⟩
    by_cases hji : j = i
    · subst hji; exact hy.wpOp hi hS ⟨fun _ => hS, H⟩
    · have h1 := H.2 j (ready_mono hj hji)
      obtain ⟨hjun, oj, hoj, hall⟩ := mem_ready.1 hj
      have hun : ¬ done.getD i false = true := fun h => by
        have h0 := (mem_ready.1 hr).1
        rcases Nat.lt_or_ge i done.size with h' | h'
        · simp [h'] at h0 h; rw [h0] at h; cases h
        · simp [Array.getElem?_eq_none h'] at h
      have hno : ∀ e ∈ oj.after, Region.binds md e = true → e.on ≠ i := fun e he hb heq => hun (by rw [← heq]; exact hall e he hb)
      have hjC : j ∉ C := fun hjC => by
        obtain ⟨oc, h1, x, x1, x2, x3⟩ := hC j hjC
        rw [hoj] at h1
        cases h1
        rcases x3 with x3 | x3
        · exact hno x x1 x2 x3
        · have h2 := hall x x1 x2
          have h3 := hzu _ x3
          rcases Nat.lt_or_ge x.on done.size with h' | h'
          · simp [h'] at h2 h3; rw [h2] at h3; cases h3
          · simp [Array.getElem?_eq_none h'] at h2
      have hzu2 : ∀ c ∈ C, (done.setIfInBounds j true).getD c true = false := fun c hc => by
        have hne : j ≠ c := fun e => hjC (by rw [e]; exact hc)
        rw [getD_set_ne true hne]
        exact hzu c hc
      have hzu3 : ((done.setIfInBounds i true).setIfInBounds j true).getD z true = false := by
        have hn1 : j ≠ z := fun e => hjC (by rw [e]; exact hzC)
        have hn2 : i ≠ z := fun e => hiC (by rw [e]; exact hzC)
        rw [getD_set_ne true hn1, getD_set_ne true hn2]
        exact hzu z hzC
      have h2 := wpOp_putIf hoj (hfree j oj hoj hji hjun hno) (fun cs b => hsel i oi cs b hi) (fun cs b => hsel j oj cs b hoj) hQ hy h1
      have hfree' : ∀ k ok, ops[k]? = some ok → k ≠ i → (done.setIfInBounds j true).getD k true = false → (∀ e ∈ ok.after, Region.binds md e = true → e.on ≠ i) → oi.apart ops ok = true := fun k ok hk hki hu hn => by
        refine hfree k ok hk hki ?_ hn
        by_cases hjk : j = k
        · subst hjk; exact hjun
        · rw [getD_set_ne true hjk] at hu; exact hu
      refine wpOp_mono (fun a' w' h3 => ?_) h2
      have hS' := h3.2.1 hzu3
      refine ⟨fun _ => hS', ih (done.setIfInBounds j true) a' w' hzu2 hfree' (ready_mono hr (Ne.symm hji)) h3.1 hS' ?_⟩
      rw [Array.setIfInBounds_comm _ _ hji]
      exact h3.2.2
/-- One that may be read is read first. -/
theorem UntH.take {i n : Nat} {oi : Oper} {done : Array Bool} {a : Act} {w : World} (d : Option Nat) (hi : ops[i]? = some oi) (hd : oi.dst = d) (hz : upOk md ops done i z (upOf md ops i) = true) (hs : Region.noSelect ops = true) (hf : Region.free md ops done i = true) (hr : (Region.ready md ops done).contains i = true)
    (hQ : ∀ v c a w, Q (.panic c) (a.put oi.dst v) w → Q (.panic c) a w) (hw : Region.wanted oi (yielded ops a.tmps) = true) (hS : S w) (h : ∃ v, (∀ w', S w' → (execOp a.eval oi).run P w' = .ok (.value v) w') ∧ UntH P md ops Q S z n (done.setIfInBounds i true) (a.put d v) w) : UntH P md ops Q S z (n + 1) done a w := by
  obtain ⟨v, h1, h2⟩ := h
  rw [← hd] at h2
  revert hz
  generalize upOf md ops i = C
  intro hz
  simp only [upOk, Bool.and_eq_true, List.all_eq_true, Bool.not_eq_true', List.contains_iff_mem] at hz
  obtain ⟨⟨hz1, hz2⟩, hz3⟩ := hz
  refine UntH.first (C := C) hi hz1 ?_ ?_ (Region.noSelect_spec hs) (hQ v) n done a w (fun c hc => (hz3 c hc).1) (Region.free_spec hi hf) (by simpa using hr) (.inl ⟨hw, h1⟩) hS h2
  · intro h0
    rw [List.contains_iff_mem.2 h0] at hz2
    cases hz2
  · intro c hc
    have h3 := (hz3 c hc).2
    cases ho : ops[c]? with
    | none => rw [ho] at h3; cases h3
    | some o =>
      rw [ho] at h3
      obtain ⟨k, hk, e⟩ := Array.any_eq_true.1 h3
      simp only [Bool.and_eq_true, Bool.or_eq_true, beq_iff_eq, List.contains_iff_mem] at e
      exact ⟨o, rfl, o.after[k], Array.getElem_mem hk, e.1, e.2⟩
/-- Only one may come up. -/
theorem UntH.one {i n : Nat} {done : Array Bool} {a : Act} {w : World} (hr : Region.ready md ops done = [i]) (h : wpOp P ops Q i (fun a' w' => ((done.setIfInBounds i true).getD z true = false → S w') ∧ UntH P md ops Q S z n (done.setIfInBounds i true) a' w') a w) : UntH P md ops Q S z (n + 1) done a w :=
  ⟨fun h0 => (by rw [hr] at h0; cases h0), fun j hj => by
    rw [hr] at hj
    obtain rfl := List.mem_singleton.1 hj
    exact h⟩
theorem UntH.step {i n : Nat} {o : Oper} {done : Array Bool} {a : Act} {w : World} (hr : Region.ready md ops done = [i]) (ho : ops[i]? = some o) (h : ∀ K' : Act → World → Prop, Shut (∀ a w, S w → UntH P md ops Q S z n (done.setIfInBounds i true) a w → K' a w) → if Region.wanted o (yielded ops a.tmps) = true then Oper.wp P o a w K' Q else K' (a.put o.dst undef) w) : UntH P md ops Q S z (n + 1) done a w :=
  UntH.one hr (wpOp_step ho (fun K' hK => h K' (fun a w h1 h2 => hK a w ⟨fun _ => h1, h2⟩)))
theorem UntH.last {n : Nat} {o : Oper} {done : Array Bool} {a : Act} {w : World} (hr : Region.ready md ops done = [z]) (ho : ops[z]? = some o) (hr2 : Region.ready md ops (done.setIfInBounds z true) = []) (hz : (done.setIfInBounds z true).getD z true = true) (h : ∀ K' : Act → World → Prop, Shut (∀ a w, Q .normal a w → K' a w) → if Region.wanted o (yielded ops a.tmps) = true then Oper.wp P o a w K' Q else K' (a.put o.dst undef) w) : UntH P md ops Q S z (n + 1) done a w :=
  UntH.one hr (wpOp_step ho (fun K' hK => h K' (fun a w h1 => hK a w ⟨fun h2 => (by rw [hz] at h2; cases h2), by
    cases n with
    | zero => exact ⟨hr2, h1⟩
    | succ n => exact ⟨fun _ => h1, fun j hj => by rw [hr2] at hj; cases hj⟩⟩)))
theorem UntH.end {n : Nat} {done : Array Bool} {a : Act} {w : World} (hr : Region.ready md ops done = []) (h : Q .normal a w) : UntH P md ops Q S z n done a w := by
  cases n with
  | zero => exact ⟨hr, h⟩
  | succ n => exact ⟨fun _ => h, fun j hj => by rw [hr] at hj; cases hj⟩
theorem wp_unt {id : Nat} {a : Act} {w : World} (z : Nat) (hm : P.follows .mixedOrders = true) (h : UntH P .any ops Q S z ops.size (Array.replicate ops.size false) a w.drew) : (Code.region id ops true).wp P Q a w := wp_region_any hm (UntH.any _ _ _ _ h)
end
end Go.Proofs.Ytnddhkhmbjeefaa
/-
  A region that draws its order, behind the operation that is told apart. Of no program: no condition.
-/
namespace Go.Proofs.Ytnddhkhmbjeefaa
open Go.RowKit Go.Lib

section
variable {P : Program} {ops : Array Oper} {Q : Exit → Act → World → Prop} {md : Region.Mode} {S : World → Prop} {z : Nat}
/-- Only one may come up, and z has come up, or is it: nothing is asked of the world. -/
theorem UntH.stepf {i n : Nat} {o : Oper} {done : Array Bool} {a : Act} {w : World} (hr : Region.ready md ops done = [i]) (ho : ops[i]? = some o) (hz : (done.setIfInBounds i true).getD z true = true) (h : ∀ K' : Act → World → Prop, Shut (∀ a w, UntH P md ops Q S z n (done.setIfInBounds i true) a w → K' a w) → if Region.wanted o (yielded ops a.tmps) = true then Oper.wp P o a w K' Q else K' (a.put o.dst undef) w) : UntH P md ops Q S z (n + 1) done a w :=
  UntH.one hr (wpOp_step ho (fun K' hK => h K' (fun a w h1 => hK a w ⟨fun h2 => (by rw [hz] at h2; cases h2), h1⟩)))
end
end Go.Proofs.Ytnddhkhmbjeefaa
/-
  An arena as a list of nodes, what Make tells of it, in pure words; keys of nodes. Of no program: no condition.
-/
namespace Go.Proofs.Ytnddhkhmbjeefaa
open Go.RowKit

abbrev Nd := Int × List Int
def lvl (S : List Int) (N : List Nd) (f : Int) : Int := if 2 ≤ f ∧ f < (N.length : Int) + 2 then (N.getD (f - 2).toNat (0, [])).1 else (S.length : Int)
def hasR (N : List Nd) (f : Int) : Prop := 0 ≤ f ∧ f < (N.length : Int) + 2
instance (N : List Nd) (f : Int) : Decidable (hasR N f) := inferInstanceAs (Decidable (_ ∧ _))
structure May (S : List Int) (N : List Nd) (lv : Int) (ks : List Int) : Prop where
  ge : 0 ≤ lv
  lt : lv < (S.length : Int)
  len : (ks.length : Int) = S.getD lv.toNat 0
  kid : ∀ f ∈ ks, hasR N f ∧ lv < lvl S N f
def One (ks : List Int) : Prop := ∀ f ∈ ks, f = ks.getD 0 0
/-- What Make tells. -/
def MkP (S : List Int) (M : Int) (N : List Nd) (lv : Int) (ks : List Int) (f e : Int) (N' : List Nd) : Prop :=
  (¬ May S N lv ks ∧ f = 0 ∧ e = 1 ∧ N' = N) ∨
  (May S N lv ks ∧ One ks ∧ f = ks.getD 0 0 ∧ e = 0 ∧ N' = N) ∨
  (May S N lv ks ∧ ¬ One ks ∧ (∃ i : Nat, N[i]? = some (lv, ks) ∧ f = (i : Int) + 2) ∧ e = 0 ∧ N' = N) ∨
  (May S N lv ks ∧ ¬ One ks ∧ (lv, ks) ∉ N ∧ M ≤ (N.length : Int) ∧ f = 0 ∧ e = 2 ∧ N' = N) ∨
  (May S N lv ks ∧ ¬ One ks ∧ (lv, ks) ∉ N ∧ (N.length : Int) < M ∧ f = (N.length : Int) + 2 ∧ e = 0 ∧ N' = N ++ [(lv, ks)])
/-- Sizes that may be. -/
structure SzOk (S : List Int) : Prop where
  ge : 1 ≤ S.length
  le : S.length ≤ 12
  each : ∀ s ∈ S, 1 ≤ s ∧ s ≤ 256
structure Ok (S : List Int) (M : Int) (N : List Nd) : Prop where
  sz : SzOk S
  m0 : 0 ≤ M
  m1 : M ≤ 8192
  few : (N.length : Int) ≤ M
  nod : N.Nodup
  each : ∀ i (h : i < N.length), May S (N.take i) (N[i]).1 (N[i]).2 ∧ ¬ One (N[i]).2
theorem lvl_take {S : List Int} {N : List Nd} {i : Nat} {f : Int} (h : hasR (N.take i) f) : lvl S (N.take i) f = lvl S N f := by
  unfold hasR at h
  rw [List.length_take] at h
  unfold lvl
  rw [List.length_take]
  by_cases h2 : 2 ≤ f
  · rw [if_pos ⟨h2, by omega⟩, if_pos ⟨h2, by omega⟩]
    simp only [List.getD_eq_getElem?_getD]
    rw [List.getElem?_take_of_lt (by omega)]
  · rw [if_neg (fun h => h2 h.1), if_neg (fun h => h2 h.1)]
theorem lvl_take_of {N : List Nd} {i : Nat} {f : Int} (h : hasR (N.take i) f) : hasR N f := by
  unfold hasR at *
  rw [List.length_take] at h
  omega
theorem May.up {S : List Int} {N : List Nd} {i : Nat} {lv : Int} {ks : List Int} (h : May S (N.take i) lv ks) : May S N lv ks :=
  ⟨h.ge, h.lt, h.len, fun f hf => ⟨lvl_take_of (h.kid f hf).1, by rw [← lvl_take (h.kid f hf).1]; exact (h.kid f hf).2⟩⟩
theorem Ok.may {S : List Int} {M : Int} {N : List Nd} (h : Ok S M N) {i : Nat} (hi : i < N.length) : May S N (N[i]).1 (N[i]).2 := (h.each i hi).1.up
theorem Ok.nil {S : List Int} {M : Int} (h : SzOk S) (h0 : 0 ≤ M) (h1 : M ≤ 8192) : Ok S M [] := ⟨h, h0, h1, by simpa using h0, List.nodup_nil, fun i h => by simp at h⟩
theorem Ok.take {S : List Int} {M : Int} {N : List Nd} (h : Ok S M N) (n : Nat) : Ok S M (N.take n) := by
  refine ⟨h.sz, h.m0, h.m1, by have := h.few; rw [List.length_take]; omega, h.nod.sublist (List.take_sublist _ _), fun i hi => ?_⟩
  rw [List.length_take] at hi
  rw [List.getElem_take, List.take_take, Nat.min_eq_left (by omega)]
  exact h.each i (by omega)
theorem Ok.add {S : List Int} {M : Int} {N : List Nd} (h : Ok S M N) {lv : Int} {ks : List Int} (h1 : May S N lv ks) (h2 : ¬ One ks) (h3 : (lv, ks) ∉ N) (h4 : (N.length : Int) < M) : Ok S M (N ++ [(lv, ks)]) := by
  refine ⟨h.sz, h.m0, h.m1, by rw [List.length_append, List.length_singleton]; omega, ?_, fun i hi => ?_⟩
  · rw [List.nodup_append]
    refine ⟨h.nod, List.nodup_cons.2 ⟨by simp, List.nodup_nil⟩, fun a ha b hb e => ?_⟩
    rw [List.mem_singleton.1 hb] at e
    subst e
    exact h3 ha
  · by_cases hn : i < N.length
    · rw [List.getElem_append_left hn, List.take_append_of_le_length (by omega)]
      exact h.each i hn
    · have : i = N.length := by rw [List.length_append, List.length_singleton] at hi; omega
      subst this
      rw [List.getElem_append_right (Nat.le_refl _), List.take_left']
      · simpa using ⟨h1, h2⟩
      · rfl
theorem MkP.ok {S : List Int} {M : Int} {N N' : List Nd} {lv f e : Int} {ks : List Int} (h : Ok S M N) (k : MkP S M N lv ks f e N') : Ok S M N' := by
  rcases k with ⟨_, _, _, rfl⟩ | ⟨_, _, _, _, rfl⟩ | ⟨_, _, _, _, rfl⟩ | ⟨_, _, _, _, _, _, rfl⟩ | ⟨h1, h2, h3, h4, _, _, rfl⟩
  · exact h
  · exact h
  · exact h
  · exact h
  · exact h.add h1 h2 h3 h4
theorem mem_of_at {N : List Nd} {i : Nat} {x : Nd} (h : N[i]? = some x) : x ∈ N := List.mem_of_getElem? h
theorem at_lt {N : List Nd} {i : Nat} {x : Nd} (h : N[i]? = some x) : i < N.length := by
  rcases Nat.lt_or_ge i N.length with h1 | h1
  · exact h1
  · rw [List.getElem?_eq_none h1] at h; cases h
theorem nodup_at {N : List Nd} (hn : N.Nodup) {i j : Nat} {x : Nd} (h1 : N[i]? = some x) (h2 : N[j]? = some x) : i = j := by
  have a := at_lt h1
  have b := at_lt h2
  rw [List.getElem?_eq_getElem a] at h1
  rw [List.getElem?_eq_getElem b] at h2
  have e : N[i] = N[j] := (Option.some.inj h1).trans (Option.some.inj h2).symm
  have hp := List.pairwise_iff_getElem.1 hn
  rcases Nat.lt_trichotomy i j with h | h | h
  · exact absurd e (hp i j a b h)
  · exact h
  · exact absurd e.symm (hp j i b a h)
/-- What is told is one thing. -/
theorem MkP.one {S : List Int} {M : Int} {N N1 N2 : List Nd} {lv f1 e1 f2 e2 : Int} {ks : List Int} (h : N.Nodup) (a : MkP S M N lv ks f1 e1 N1) (b : MkP S M N lv ks f2 e2 N2) : f1 = f2 ∧ e1 = e2 ∧ N1 = N2 := by
  rcases a with ⟨a0, rfl, rfl, rfl⟩ | ⟨a0, a1, rfl, rfl, rfl⟩ | ⟨a0, a1, ⟨i, a2, rfl⟩, rfl, rfl⟩ | ⟨a0, a1, a2, a3, rfl, rfl, rfl⟩ | ⟨a0, a1, a2, a3, rfl, rfl, rfl⟩ <;>
  rcases b with ⟨b0, rfl, rfl, rfl⟩ | ⟨b0, b1, rfl, rfl, rfl⟩ | ⟨b0, b1, ⟨j, b2, rfl⟩, rfl, rfl⟩ | ⟨b0, b1, b2, b3, rfl, rfl, rfl⟩ | ⟨b0, b1, b2, b3, rfl, rfl, rfl⟩ <;>
  first
  | exact ⟨rfl, rfl, rfl⟩
  | exact absurd b0 a0
  | exact absurd a0 b0
  | exact absurd b1 a1
  | exact absurd a1 b1
  | (exfalso; exact a2 (mem_of_at b2))
  | (exfalso; exact b2 (mem_of_at a2))
  | (exfalso; omega)
  | (have := nodup_at h a2 b2; subst this; exact ⟨rfl, rfl, rfl⟩)
/-- A node's key. -/
def keyB (lv : Int) (ks : List Int) : List UInt8 := UInt8.ofNat lv.toNat :: ks.flatMap fun f => [UInt8.ofNat (f.toNat / 256), UInt8.ofNat (f.toNat % 256)]
theorem u8_inj {a b : Nat} (ha : a < 256) (hb : b < 256) (h : UInt8.ofNat a = UInt8.ofNat b) : a = b := by
  have := congrArg UInt8.toNat h
  simp [UInt8.toNat_ofNat'] at this
  omega
theorem kids_inj : ∀ (a b : List Int), (∀ f ∈ a, 0 ≤ f ∧ f < 65536) → (∀ f ∈ b, 0 ≤ f ∧ f < 65536) → (a.flatMap fun f => [UInt8.ofNat (f.toNat / 256), UInt8.ofNat (f.toNat % 256)]) = (b.flatMap fun f => [UInt8.ofNat (f.toNat / 256), UInt8.ofNat (f.toNat % 256)]) → a = b
  | [], [], _, _, _ => rfl
  | [], _ :: _, _, _, h => by simp at h
  | _ :: _, [], _, _, h => by simp at h
  | x :: a, y :: b, ha, hb, h => by
    simp only [List.flatMap_cons, List.cons_append, List.nil_append, List.cons.injEq] at h
    obtain ⟨h1, h2, h3⟩ := h
    have hx := ha x (by simp)
    have hy := hb y (by simp)
    have e1 := u8_inj (by omega) (by omega) h1
    have e2 := u8_inj (by omega) (by omega) h2
    have e : x = y := by omega
    rw [e, kids_inj a b (fun f hf => ha f (by simp [hf])) (fun f hf => hb f (by simp [hf])) h3]
theorem keyB_inj {l1 l2 : Int} {a b : List Int} (h1 : 0 ≤ l1 ∧ l1 < 256) (h2 : 0 ≤ l2 ∧ l2 < 256) (ha : ∀ f ∈ a, 0 ≤ f ∧ f < 65536) (hb : ∀ f ∈ b, 0 ≤ f ∧ f < 65536) (h : keyB l1 a = keyB l2 b) : (l1, a) = (l2, b) := by
  unfold keyB at h
  simp only [List.cons.injEq] at h
  have e1 := u8_inj (by omega) (by omega) h.1
  have e2 := kids_inj a b ha hb h.2
  have : l1 = l2 := by omega
  rw [this, e2]
theorem keyB_length (lv : Int) (ks : List Int) : (keyB lv ks).length = 1 + 2 * ks.length := by
  unfold keyB
  rw [List.length_cons]
  have : (ks.flatMap fun f => [UInt8.ofNat (f.toNat / 256), UInt8.ofNat (f.toNat % 256)]).length = 2 * ks.length := by
    induction ks with
    | nil => rfl
    | cons x l ih => rw [List.flatMap_cons, List.length_append, ih, List.length_cons, List.length_cons]; simp; omega
  omega
theorem May.rng {S : List Int} {M : Int} {N N0 : List Nd} {lv : Int} {ks : List Int} (h : Ok S M N0) (hl : N.length ≤ 8192) (m : May S N lv ks) : (0 ≤ lv ∧ lv < 256) ∧ (∀ f ∈ ks, 0 ≤ f ∧ f < 65536) ∧ ks.length ≤ 256 ∧ 1 ≤ ks.length := by
  have h1 := m.ge
  have h2 := m.lt
  have h3 := h.sz.le
  have h4 := m.len
  refine ⟨⟨h1, by omega⟩, fun f hf => ?_, ?_⟩
  · have := (m.kid f hf).1
    unfold hasR at this
    omega
  · have hm : S.getD lv.toNat 0 ∈ S := by
      rw [List.getD_eq_getElem?_getD, List.getElem?_eq_getElem (by omega)]
      exact List.getElem_mem _
    have := h.sz.each _ hm
    omega
theorem Ok.key_inj {S : List Int} {M : Int} {N : List Nd} (h : Ok S M N) {l1 l2 : Int} {a b : List Int} (h1 : May S N l1 a) (h2 : May S N l2 b) (e : keyB l1 a = keyB l2 b) : (l1, a) = (l2, b) := by
  have hf := h.few
  have hm := h.m1
  obtain ⟨a1, a2, _⟩ := h1.rng h (by omega)
  obtain ⟨b1, b2, _⟩ := h2.rng h (by omega)
  exact keyB_inj a1 b1 a2 b2 e
end Go.Proofs.Ytnddhkhmbjeefaa
