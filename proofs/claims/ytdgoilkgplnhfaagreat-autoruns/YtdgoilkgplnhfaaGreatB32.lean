/-
  The document's numbered, as lists: a state of each part, the columns' rows, the order in which parts are met. Of no program's walk: the conditions are named.
-/
import Derived.Test.YtdgoilkgplnhfaaGreatB31
import Derived.Test.YtdgoilkgplnhfaaGreatB29
import Derived.Deep.RegionHeld3
namespace Go.Proofs.YtdgoilkgplnhfaaGreat

/-- A state of each part, of k states. -/
structure OnS (l PL : List Nat) (m k : Nat) (ON : List Nat) : Prop where
  len : ON.length = m
  v : ∀ i, i < k → gN ON (gN PL (gN l i)) ∈ l ∧ gN PL (gN ON (gN PL (gN l i))) = gN PL (gN l i)
section
variable {l PL ON : List Nat} {m k : Nat}
theorem OnS.start : OnS l PL m 0 (List.replicate m 0) := ⟨List.length_replicate, fun i hi => by omega⟩
theorem OnS.next (h : OnS l PL m k ON) (hk : k < l.length) (hp : gN PL (gN l k) < m) : OnS l PL m (k + 1) (ON.set (gN PL (gN l k)) (gN l k)) := by
  have hl := h.len
  refine ⟨by rw [List.length_set]; exact hl, fun i hi => ?_⟩
  by_cases e : gN PL (gN l i) = gN PL (gN l k)
  · rw [gN_sT (by omega), if_pos e]
    exact ⟨gN_mem hk, e.symm⟩
  · rw [gN_sT (by omega), if_neg e]
    refine h.v i ?_
    rcases Nat.lt_or_ge i k with h1 | h1
    · exact h1
    · exact absurd (by rw [show i = k by omega]) e
theorem OnS.done (h : OnS l PL m l.length ON) (hit : ∀ r, r < m → ∃ s, s ∈ l ∧ gN PL s = r) : ∀ p, p < m → gN ON p ∈ l ∧ gN PL (gN ON p) = p := fun p hp => by
  obtain ⟨s, h1, h2⟩ := hit p hp
  obtain ⟨i, h3, h4⟩ := mem_gN h1
  have := h.v i h3
  rw [h4, h2] at this
  exact this
end
theorem NumF.congr {α : Type} {look : Nat → α} {N M : Nat} {num num' fst : Nat → Nat} (h : NumF look N num fst M) (e : ∀ i, i < N → num' i = num i) : NumF look N num' fst M :=
  ⟨fun i hi => by rw [e i hi]; exact h.numlt i hi, fun i hi => by rw [e i hi]; exact h.lk i hi, h.fstlt, fun k hk => by rw [e _ (h.fstlt k hk)]; exact h.numfst k hk, h.first, h.inc⟩
/-- Columns' rows, of b bytes. -/
structure CoS (D : DF) (f one : Nat → Nat) (m b : Nat) (R : List (List Nat)) (OF CO F : List Nat) : Prop where
  nf : NumF (fun b => rowC D f one m (D.bc b)) b (gN CO) (gN F) R.length
  row : ∀ c, c < R.length → R.getD c [] = rowC D f one m (D.bc (gN F c))
  fl : F.length = R.length
  of : ∀ b', b' < b → gN OF (D.bc b') = gN CO b' + 1
  on : ∀ c, gN OF c ≠ 0 → ∃ b', b' < b ∧ D.bc b' = c
  ol : OF.length = 256
  cl : CO.length = 256
section
variable {D : DF} {f one : Nat → Nat} {m b : Nat} {R : List (List Nat)} {OF CO F : List Nat}
theorem CoS.start : CoS D f one m 0 [] (zer 256) (zer 256) [] :=
  ⟨⟨fun i h => by omega, fun i h => by omega, fun i h => (by cases h), fun i h => (by cases h), fun i h => (by cases h), fun i l _ h => (by cases h)⟩, fun c hc => (by cases hc), rfl, fun b' h => by omega, fun c hc => absurd (zer_get _ _) hc, zer_len _, zer_len _⟩
theorem CoS.few (h : CoS D f one m b R OF CO F) : R.length ≤ b := pigeon b R.length (gN F) h.nf.fstlt (fun i a j c e => by rw [← h.nf.numfst i a, ← h.nf.numfst j c, e])
theorem take_gN {L : List Nat} {b i : Nat} (hi : i < b) : gN (L.take b) i = gN L i := by
  unfold gN
  simp [List.getD_eq_getElem?_getD, hi]
theorem CoS.take (h : CoS D f one m b R OF CO F) (hb : b < 256) : NumF (fun b => rowC D f one m (D.bc b)) (CO.take b).length (gN (CO.take b)) (gN F) F.length ∧ (CO.take b).length = b := by
  have hl : (CO.take b).length = b := by rw [List.length_take, h.cl]; omega
  refine ⟨?_, hl⟩
  rw [hl, h.fl]
  exact h.nf.congr (fun i hi => take_gN hi)
theorem CoS.put (h : CoS D f one m b R OF CO F) (hb : b < 256) {x i : Nat} (hi : i < b + 1) : gN (CO.set b x) i = gN (CO.take b ++ [x]) i := by
  have hl : (CO.take b).length = b := by rw [List.length_take, h.cl]; omega
  rw [gN_sT (by rw [h.cl]; exact hb)]
  by_cases e : i = b
  · subst e
    rw [if_pos rfl]
    have := gN_last (CO.take i) x
    rw [hl] at this
    exact this.symm
  · rw [if_neg e, gN_left (by omega), take_gN (by omega)]
/-- A column whose row stands there. -/
theorem CoS.hit (h : CoS D f one m b R OF CO F) (hb : b < 256) {p : Nat} (hp : p < R.length) (he : rowC D f one m (D.bc (gN F p)) = rowC D f one m (D.bc b)) {OF' : List Nat} (ol : OF'.length = 256) (ov : ∀ c, gN OF' c = if c = D.bc b then p + 1 else gN OF c) (hold : ∀ b', b' < b → D.bc b' = D.bc b → gN CO b' = p) : CoS D f one m (b + 1) R OF' (CO.set b p) F := by
  obtain ⟨h1, hl⟩ := h.take hb
  have h2 := h1.hit (n := p) (by rw [h.fl]; exact hp) (by rw [hl]; exact he)
  rw [hl, h.fl] at h2
  refine ⟨h2.congr (fun i hi => h.put hb hi), h.row, h.fl, fun b' hb' => ?_, fun c hc' => ?_, ol, by rw [List.length_set]; exact h.cl⟩
  · rw [ov, gN_sT (by rw [h.cl]; exact hb)]
    by_cases e : b' = b
    · rw [if_pos e, e, if_pos rfl]
    · rw [if_neg e]
      by_cases e2 : D.bc b' = D.bc b
      · rw [if_pos e2, hold b' (by omega) e2]
      · rw [if_neg e2]; exact h.of b' (by omega)
  · rw [ov] at hc'
    by_cases e : c = D.bc b
    · exact ⟨b, by omega, e.symm⟩
    · rw [if_neg e] at hc'
      obtain ⟨b', h3, h4⟩ := h.on c hc'
      exact ⟨b', by omega, h4⟩
/-- A column that was met. -/
theorem CoS.old (h : CoS D f one m b R OF CO F) (hb : b < 256) (ho : gN OF (D.bc b) ≠ 0) : gN OF (D.bc b) ≤ R.length ∧ CoS D f one m (b + 1) R OF (CO.set b (gN OF (D.bc b) - 1)) F := by
  obtain ⟨b', h1, h2⟩ := h.on _ ho
  have h3 := h.of b' h1
  rw [h2] at h3
  have h4 := h.nf.numlt b' h1
  refine ⟨by omega, h.hit hb (p := gN OF (D.bc b) - 1) (by omega) ?_ h.ol (fun c => ?_) (fun b2 h5 h6 => ?_)⟩
  · have e : gN OF (D.bc b) - 1 = gN CO b' := by omega
    rw [e]
    have h7 : rowC D f one m (D.bc (gN F (gN CO b'))) = rowC D f one m (D.bc b') := h.nf.lk b' h1
    rw [h7, h2]
  · by_cases e : c = D.bc b
    · rw [if_pos e, e]; omega
    · rw [if_neg e]
  · have := h.of b2 h5
    rw [h6] at this
    omega
/-- A column whose row stood there. -/
theorem CoS.same (h : CoS D f one m b R OF CO F) (hb : b < 256) (hc : D.bc b < 256) (ho : gN OF (D.bc b) = 0) {p : Nat} (hp : p < R.length) (he : R.getD p [] = rowC D f one m (D.bc b)) : CoS D f one m (b + 1) R (OF.set (D.bc b) (p + 1)) (CO.set b p) F := by
  refine h.hit hb hp (by rw [← h.row p hp]; exact he) (by rw [List.length_set]; exact h.ol) (fun c => gN_sT (by rw [h.ol]; exact hc)) (fun b' h1 h2 => ?_)
  have := h.of b' h1
  rw [h2, ho] at this
  omega
/-- A row that is new. -/
theorem CoS.new (h : CoS D f one m b R OF CO F) (hb : b < 256) (hc : D.bc b < 256) (ho : gN OF (D.bc b) = 0) (hne : ∀ j, j < R.length → R.getD j [] ≠ rowC D f one m (D.bc b)) : CoS D f one m (b + 1) (R ++ [rowC D f one m (D.bc b)]) (OF.set (D.bc b) (R.length + 1)) (CO.set b R.length) (F ++ [b]) := by
  obtain ⟨h1, hl⟩ := h.take hb
  have h2 := h1.miss (fun k hk e => hne k (by rw [← h.fl]; exact hk) (by rw [h.row k (by rw [← h.fl]; exact hk), ← hl]; exact e))
  rw [hl, h.fl] at h2
  have hlR : (R ++ [rowC D f one m (D.bc b)]).length = R.length + 1 := by simp
  refine ⟨by rw [hlR]; exact h2.congr (fun i hi => h.put hb hi), fun c hc' => ?_, by simp [h.fl], fun b' hb' => ?_, fun c hc' => ?_, by rw [List.length_set]; exact h.ol, by rw [List.length_set]; exact h.cl⟩
  · rw [hlR] at hc'
    by_cases e : c < R.length
    · have e1 : (R ++ [rowC D f one m (D.bc b)]).getD c [] = R.getD c [] := by simp [List.getD_eq_getElem?_getD, List.getElem?_append, e]
      rw [e1, gN_left (by rw [h.fl]; exact e)]
      exact h.row c e
    · have e2 : c = R.length := by omega
      subst e2
      have e1 : (R ++ [rowC D f one m (D.bc b)]).getD R.length [] = rowC D f one m (D.bc b) := by simp [List.getD_eq_getElem?_getD]
      have e3 := gN_last F b
      rw [h.fl] at e3
      rw [e1, e3]
  · rw [gN_sT (by rw [h.ol]; exact hc), gN_sT (by rw [h.cl]; exact hb)]
    by_cases e : b' = b
    · rw [if_pos e, e, if_pos rfl]
    · rw [if_neg e]
      have h3 := h.of b' (by omega)
      by_cases e2 : D.bc b' = D.bc b
      · rw [e2, ho] at h3; omega
      · rw [if_neg e2]; exact h3
  · rw [gN_sT (by rw [h.ol]; exact hc)] at hc'
    by_cases e : c = D.bc b
    · exact ⟨b, by omega, e.symm⟩
    · rw [if_neg e] at hc'
      obtain ⟨b', h3, h4⟩ := h.on c hc'
      exact ⟨b', by omega, h4⟩
end
/-- Which place a part has in the order, and one. -/
structure NoS (St NM : List Nat) (m : Nat) : Prop where
  len : NM.length = m
  v : ∀ p, gN NM p ≠ 0 → gN NM p ≤ St.length ∧ gN St (gN NM p - 1) = p
  w : ∀ a, a < St.length → gN NM (gN St a) ≠ 0
theorem NoS.start {m : Nat} (hm : 0 < m) : NoS [0] ((List.replicate m 0).set 0 1) m := by
  refine ⟨by simp, fun p hp => ?_, fun a ha => ?_⟩
  · rw [gN_sT (by simp; exact hm)] at hp ⊢
    by_cases e : p = 0
    · rw [if_pos e]; exact ⟨by simp, by rw [e]; rfl⟩
    · rw [if_neg e, gN_zero] at hp; exact absurd rfl hp
  · have : a = 0 := by simp at ha; omega
    subst this
    rw [show gN [0] 0 = 0 from rfl, gN_sT (by simp; exact hm), if_pos rfl]
    decide
theorem NoS.new {St NM : List Nat} {m p : Nat} (h : NoS St NM m) (hp : p < m) : NoS (St ++ [p]) (NM.set p (St.length + 1)) m := by
  have hl := h.len
  refine ⟨by rw [List.length_set]; exact hl, fun q hq => ?_, fun a ha => ?_⟩
  · rw [gN_sT (by omega)] at hq ⊢
    by_cases e : q = p
    · rw [if_pos e]
      exact ⟨by simp, by rw [show St.length + 1 - 1 = St.length by omega, gN_last]; exact e.symm⟩
    · rw [if_neg e] at hq ⊢
      obtain ⟨h1, h2⟩ := h.v q hq
      exact ⟨by simp; omega, by rw [gN_left (by omega)]; exact h2⟩
  · rw [gN_sT (by omega)]
    by_cases e : a < St.length
    · rw [gN_left e]
      by_cases e2 : gN St a = p
      · rw [if_pos e2]; omega
      · rw [if_neg e2]; exact h.w a e
    · have e3 : a = St.length := by simp at ha; omega
      rw [e3, gN_last, if_pos rfl]; omega
/-- What numbered tells is the one form. -/
theorem numD_done {bs : By} {NX OU l PL ON CO F St X O : List Nat} {m : Nat} {R : List (List Nat)} (hM : MayA bs NX OU) (hm : m ≤ 256) (h : QuS (dfA bs NX OU) l (gN PL) (gN ON) m R (gN CO) (gN F)) (hf : F.length = R.length) (hR : R.length ≤ 256) (cl : CO.length = 256) (rc : RcS (quD (dfA bs NX OU) (gN ON) m R (gN CO)) F St X St.length 0) (hO : O = St.map fun p => gN OU (gN ON p)) :
    (dfA (btOf CO) X O).Right ∧ (∀ t, Txt t → (dfA (btOf CO) X O).lab 0 t = (dfA bs NX OU).lab 0 t) ∧ MayA (btOf CO) X O ∧ O.length ≤ 256 := by
  obtain ⟨h1, h2⟩ := h.done hf rc
  have hOl : O.length = St.length := by rw [hO, List.length_map]
  have hlen : X.length = St.length * F.length := by have := rc.len; omega
  have hs0 := rc.s0.1
  have hWd : X.length / O.length = F.length := by rw [hlen, hOl]; exact Nat.mul_div_cancel_left _ hs0
  have hSt : St.length ≤ m := pigeon m St.length (gN St) rc.lt rc.nd
  have hou : ∀ s, s < St.length → gN O s = gN OU (gN ON (gN St s)) := fun s hs => by
    rw [hO]
    exact gN_map St (fun p => gN OU (gN ON p)) hs
  have hcb : ∀ b, b < 256 → gN CO b < R.length := fun b hb => h.nf.numlt b hb
  have hbt : ∀ b, b < 256 → ((btOf CO).getD b 0).toNat = gN CO b := fun b hb => btOf_get CO (by omega) (by have := hcb b hb; omega)
  have agr : Agr (rcD (quD (dfA bs NX OU) (gN ON) m R (gN CO)) CO F St X) (dfA (btOf CO) X O) := by
    refine ⟨hOl, hWd, fun b hb => hbt b hb, fun s hs c hc => ?_, fun s hs => ?_⟩
    · show gN X (s * (X.length / O.length) + c) = gN X (s * F.length + c)
      rw [hWd]
    · have hs' : s < St.length := hs
      show ((gN O s : Nat) : Int) = ((gN OU (gN ON (gN St s)) : Nat) : Int)
      rw [hou s hs']
  refine ⟨agr.right h1, fun t ht => by rw [agr.lab h1.toOk h1.toOk.n0 ht]; exact h2 t ht, ⟨?_, by omega, by omega, by rw [hWd, hOl]; exact hlen, fun b hb => ?_, by rw [hWd]; omega, fun x hx => ?_, fun x hx => ?_⟩, by omega⟩
  · unfold btOf; rw [List.length_map]; exact cl
  · rw [hWd, hbt b hb, hf]; exact hcb b hb
  · obtain ⟨q, h3, h4⟩ := mem_gN hx
    rw [← h4, hOl]
    exact (rc.nxt q h3).1
  · rw [hO] at hx
    obtain ⟨p, h3, rfl⟩ := List.mem_map.1 hx
    obtain ⟨a, h4, h5⟩ := mem_gN h3
    have hp := rc.lt a h4
    rw [h5] at hp
    have hs := h.rd.n _ (h.on p hp).1
    have hs : gN ON p < OU.length := hs
    rw [gN_lt hs]
    exact hM.lb _ (List.getElem_mem hs)
end Go.Proofs.YtdgoilkgplnhfaaGreat
/-
  A region that draws its order, while its last operation has not come up: what is read may be read first. Of no program: no condition.
-/
namespace Go.Proofs.YtdgoilkgplnhfaaGreat
open Go.RowKit Go.Lib

section
variable {P : Program} {ops : Array Oper} {Q : Exit → Act → World → Prop} {md : Region.Mode} {S : World → Prop} {z : Nat}
/-- Whatever comes up, S holds behind it as long as operation z has not come up. -/
def UntH (P : Program) (md : Region.Mode) (ops : Array Oper) (Q : Exit → Act → World → Prop) (S : World → Prop) (z : Nat) : Nat → Array Bool → Act → World → Prop
  | 0, done, a, w => Region.ready md ops done = [] ∧ Q .normal a w
  | n + 1, done, a, w => (Region.ready md ops done = [] → Q .normal a w) ∧ ∀ i ∈ Region.ready md ops done, wpOp P ops Q i (fun a' w' => ((done.setIfInBounds i true).getD z true = false → S w') ∧ UntH P md ops Q S z n (done.setIfInBounds i true) a' w') a w
theorem UntH.any : ∀ (n : Nat) (done : Array Bool) (a : Act) (w : World), UntH P md ops Q S z n done a w → wpAny P md ops Q n done a w
  | 0, _, _, _, h => h
  | n + 1, _, _, _, h => ⟨h.1, fun i hi => wpOp_mono (fun a' w' k => UntH.any n _ a' w' k.2) (h.2 i hi)⟩
/-- The operations that wait for operation i, or for one that does. -/
def upOf (md : Region.Mode) (ops : Array Oper) (i : Nat) : List Nat :=
  (List.range ops.size).foldl (fun C c => match ops[c]? with
    | some o => if o.after.any (fun e => Region.binds md e && (e.on == i || C.contains e.on)) then c :: C else C
    | none => C) []
def upOk (md : Region.Mode) (ops : Array Oper) (done : Array Bool) (i z : Nat) (C : List Nat) : Bool :=
  C.contains z && !C.contains i && C.all fun c => !done.getD c true && match ops[c]? with
    | some o => o.after.any fun e => Region.binds md e && (e.on == i || C.contains e.on)
    | none => false
theorem UntH.first {i : Nat} {oi : Oper} {v : Value} {C : List Nat} (hi : ops[i]? = some oi) (hzC : z ∈ C) (hiC : i ∉ C) (hC : ∀ c ∈ C, ∃ oc, ops[c]? = some oc ∧ ∃ e ∈ oc.after, Region.binds md e = true ∧ (e.on = i ∨ e.on ∈ C)) (hsel : ∀ (j : Nat) (o : Oper) cs b, ops[j]? = some o → o.op ≠ .select cs b) (hQ : ∀ c a w, Q (.panic c) (a.put oi.dst v) w → Q (.panic c) a w) :
    ∀ (n : Nat) (done : Array Bool) (a : Act) (w : World), (∀ c ∈ C, done.getD c true = false) → (∀ j oj, ops[j]? = some oj → j ≠ i → done.getD j true = false → (∀ e ∈ oj.after, Region.binds md e = true → e.on ≠ i) → oi.apart ops oj = true) →
      i ∈ Region.ready md ops done → YieldsIf P ops S oi v a → S w → UntH P md ops Q S z n (done.setIfInBounds i true) (a.put oi.dst v) w → UntH P md ops Q S z (n + 1) done a w := by
  intro n
  induction n with
  | zero =>
    intro done a w _ _ hr hy hS H
    refine ⟨fun h => (by rw [h] at hr; cases hr), fun j hj => ?_⟩
    by_cases hji : j = i
    · subst hji; exact hy.wpOp hi hS ⟨fun _ => hS, H⟩
    · have h1 := ready_mono hj hji
      rw [H.1] at h1
      cases h1
  | succ n ih =>
    intro done a w hzu hfree hr hy hS H
    refine ⟨fun h => (by rw [h] at hr; cases hr), fun j hj => ?_⟩
    by_cases hji : j = i
    · subst hji; exact hy.wpOp hi hS ⟨fun _ => hS, H⟩
    · have h1 := H.2 j (ready_mono hj hji)
      obtain ⟨hjun, oj, hoj, hall⟩ := mem_ready.1 hj
      have hun : ¬ done.getD i false = true := fun h => by
        have h0 := (mem_ready.1 hr).1
        rcases Nat.lt_or_ge i done.size with h' | h'
        · simp [h'] at h0 h; rw [h0] at h; cases h
        · simp [Array.getElem?_eq_none h'] at h
      have hno : ∀ e ∈ oj.after, Region.binds md e = true → e.on ≠ i := fun e he hb heq => hun (by rw [← heq]; exact hall e he hb)
      have hjC : j ∉ C := fun hjC => by
        obtain ⟨oc, h1, x, x1, x2, x3⟩ := hC j hjC
        rw [hoj] at h1
        cases h1
        rcases x3 with x3 | x3
        · exact hno x x1 x2 x3
        · have h2 := hall x x1 x2
          have h3 := hzu _ x3
          rcases Nat.lt_or_ge x.on done.size with h' | h'
          · simp [h'] at h2 h3; rw [h2] at h3; cases h3
          · simp [Array.getElem?_eq_none h'] at h2
      have hzu2 : ∀ c ∈ C, (done.setIfInBounds j true).getD c true = false := fun c hc => by
        have hne : j ≠ c := fun e => hjC (by rw [e]; exact hc)
        rw [getD_set_ne true hne]
        exact hzu c hc
      have hzu3 : ((done.setIfInBounds i true).setIfInBounds j true).getD z true = false := by
        have hn1 : j ≠ z := fun e => hjC (by rw [e]; exact hzC)
        have hn2 : i ≠ z := fun e => hiC (by rw [e]; exact hzC)
        rw [getD_set_ne true hn1, getD_set_ne true hn2]
        exact hzu z hzC
      have h2 := wpOp_putIf hoj (hfree j oj hoj hji hjun hno) (fun cs b => hsel i oi cs b hi) (fun cs b => hsel j oj cs b hoj) hQ hy h1
      have hfree' : ∀ k ok, ops[k]? = some ok → k ≠ i → (done.setIfInBounds j true).getD k true = false → (∀ e ∈ ok.after, Region.binds md e = true → e.on ≠ i) → oi.apart ops ok = true := fun k ok hk hki hu hn => by
        refine hfree k ok hk hki ?_ hn
        by_cases hjk : j = k
        · subst hjk; exact hjun
        · rw [getD_set_ne true hjk] at hu; exact hu
      refine wpOp_mono (fun a' w' h3 => ?_) h2
      have hS' := h3.2.1 hzu3
      refine ⟨fun _ => hS', ih (done.setIfInBounds j true) a' w' hzu2 hfree' (ready_mono hr (Ne.symm hji)) h3.1 hS' ?_⟩
      rw [Array.setIfInBounds_comm _ _ hji]
      exact h3.2.2
/-- One that may be read is read first. -/
theorem UntH.take {i n : Nat} {oi : Oper} {done : Array Bool} {a : Act} {w : World} (d : Option Nat) (hi : ops[i]? = some oi) (hd : oi.dst = d) (hz : upOk md ops done i z (upOf md ops i) = true) (hs : Region.noSelect ops = true) (hf : Region.free md ops done i = true) (hr : (Region.ready md ops done).contains i = true)
    (hQ : ∀ v c a w, Q (.panic c) (a.put oi.dst v) w → Q (.panic c) a w) (hw : Region.wanted oi (yielded ops a.tmps) = true) (hS : S w) (h : ∃ v, (∀ w', S w' → (execOp a.eval oi).run P w' = .ok (.value v) w') ∧ UntH P md ops Q S z n (done.setIfInBounds i true) (a.put d v) w) : UntH P md ops Q S z (n + 1) done a w := by
  obtain ⟨v, h1, h2⟩ := h
  rw [← hd] at h2
  revert hz
  generalize upOf md ops i = C
  intro hz
  simp only [upOk, Bool.and_eq_true, List.all_eq_true, Bool.not_eq_true', List.contains_iff_mem] at hz
  obtain ⟨⟨hz1, hz2⟩, hz3⟩ := hz
  refine UntH.first (C := C) hi hz1 ?_ ?_ (Region.noSelect_spec hs) (hQ v) n done a w (fun c hc => (hz3 c hc).1) (Region.free_spec hi hf) (by simpa using hr) (.inl ⟨hw, h1⟩) hS h2
  · intro h0
    rw [List.contains_iff_mem.2 h0] at hz2
    cases hz2
  · intro c hc
    have h3 := (hz3 c hc).2
    cases ho : ops[c]? with
    | none => rw [ho] at h3; cases h3
    | some o =>
      rw [ho] at h3
      obtain ⟨k, hk, e⟩ := Array.any_eq_true.1 h3
      simp only [Bool.and_eq_true, Bool.or_eq_true, beq_iff_eq, List.contains_iff_mem] at e
      exact ⟨o, rfl, o.after[k], Array.getElem_mem hk, e.1, e.2⟩
/-- Only one may come up. -/
theorem UntH.one {i n : Nat} {done : Array Bool} {a : Act} {w : World} (hr : Region.ready md ops done = [i]) (h : wpOp P ops Q i (fun a' w' => ((done.setIfInBounds i true).getD z true = false → S w') ∧ UntH P md ops Q S z n (done.setIfInBounds i true) a' w') a w) : UntH P md ops Q S z (n + 1) done a w :=
  ⟨fun h0 => (by rw [hr] at h0; cases h0), fun j hj => by
    rw [hr] at hj
    obtain rfl := List.mem_singleton.1 hj
    exact h⟩
theorem UntH.step {i n : Nat} {o : Oper} {done : Array Bool} {a : Act} {w : World} (hr : Region.ready md ops done = [i]) (ho : ops[i]? = some o) (h : ∀ K' : Act → World → Prop, Shut (∀ a w, S w → UntH P md ops Q S z n (done.setIfInBounds i true) a w → K' a w) → if Region.wanted o (yielded ops a.tmps) = true then Oper.wp P o a w K' Q else K' (a.put o.dst undef) w) : UntH P md ops Q S z (n + 1) done a w :=
  UntH.one hr (wpOp_step ho (fun K' hK => h K' (fun a w h1 h2 => hK a w ⟨fun _ => h1, h2⟩)))
theorem UntH.last {n : Nat} {o : Oper} {done : Array Bool} {a : Act} {w : World} (hr : Region.ready md ops done = [z]) (ho : ops[z]? = some o) (hr2 : Region.ready md ops (done.setIfInBounds z true) = []) (hz : (done.setIfInBounds z true).getD z true = true) (h : ∀ K' : Act → World → Prop, Shut (∀ a w, Q .normal a w → K' a w) → if Region.wanted o (yielded ops a.tmps) = true then Oper.wp P o a w K' Q else K' (a.put o.dst undef) w) : UntH P md ops Q S z (n + 1) done a w :=
  UntH.one hr (wpOp_step ho (fun K' hK => h K' (fun a w h1 => hK a w ⟨fun h2 => (by rw [hz] at h2; cases h2), by
    cases n with
    | zero => exact ⟨hr2, h1⟩
    | succ n => exact ⟨fun _ => h1, fun j hj => by rw [hr2] at hj; cases hj⟩⟩)))
theorem UntH.end {n : Nat} {done : Array Bool} {a : Act} {w : World} (hr : Region.ready md ops done = []) (h : Q .normal a w) : UntH P md ops Q S z n done a w := by
  cases n with
  | zero => exact ⟨hr, h⟩
  | succ n => exact ⟨fun _ => h, fun j hj => by rw [hr] at hj; cases hj⟩
theorem wp_unt {id : Nat} {a : Act} {w : World} (z : Nat) (hm : P.follows .mixedOrders = true) (h : UntH P .any ops Q S z ops.size (Array.replicate ops.size false) a w.drew) : (Code.region id ops true).wp P Q a w := wp_region_any hm (UntH.any _ _ _ _ h)
end
end Go.Proofs.YtdgoilkgplnhfaaGreat
