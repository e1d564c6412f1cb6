/-
  Two automata gone through side by side: pairs of states as states, and what they tell of texts. Of no program: the conditions are named.
-/
import Derived.Test.YtdgoilkgplnhfaaGreatB23
import Derived.Test.YtdgoilkgplnhfaaGreatB44
namespace Go.Proofs.YtdgoilkgplnhfaaGreat
open Go.RowKit Go.Lib Go.Maps

/-- Where a column of both leads. -/
def joC (A B : DF) (fst : List Nat) (p : Nat × Nat) (c : Nat) : Nat × Nat := (A.step p.1 (gN fst c), B.step p.2 (gN fst c))
section
variable {A B : DF} {num fst : List Nat} {lit : Nat → Lit} {base : Nat} {v1 v2 : Value} {w : World}
theorem joC_is (hd : NmDone base lit 256 v1 v2 num fst w) (hlit : ∀ b c, b < 256 → c < 256 → lit b = lit c → A.bc b = A.bc c ∧ B.bc b = B.bc c) (p : Nat × Nat) {b : Nat} (hb : b < 256) : joC A B fst p (gN num b) = (A.step p.1 b, B.step p.2 b) := by
  have hq := hd.nf.fstlt _ (hd.nf.numlt b hb)
  obtain ⟨e1, e2⟩ := hlit _ _ hq hb (hd.nf.lk b hb)
  unfold joC DF.step
  rw [e1, e2]
theorem joC_run (hd : NmDone base lit 256 v1 v2 num fst w) (hlit : ∀ b c, b < 256 → c < 256 → lit b = lit c → A.bc b = A.bc c ∧ B.bc b = B.bc c) : ∀ (t : List Nat) (p : Nat × Nat), Txt t → t.foldl (fun x b => joC A B fst x ((btOf num).getD b 0).toNat) p = (A.run p.1 t, B.run p.2 t)
  | [], _, _ => rfl
  | b :: t, p, ht => by
    rw [List.foldl_cons, (of_cols hd ht.tail.1).1, joC_is hd hlit p ht.tail.1, joC_run hd hlit t _ ht.tail.2]
    rfl
theorem joC_cols (hd : NmDone base lit 256 v1 v2 num fst w) : ∀ (u : List Nat) (p : Nat × Nat), (∀ c ∈ u, c < fst.length) → u.foldl (joC A B fst) p = (A.run p.1 (u.map (gN fst)), B.run p.2 (u.map (gN fst))) ∧ Txt (u.map (gN fst))
  | [], _, _ => ⟨rfl, Txt.nil⟩
  | c :: u, p, hu => by
    have hc := hu c List.mem_cons_self
    obtain ⟨h1, h2⟩ := joC_cols hd u (joC A B fst p c) (fun x hx => hu x (List.mem_cons_of_mem _ hx))
    refine ⟨?_, Txt.cons (hd.nf.fstlt c hc) h2⟩
    rw [List.foldl_cons, List.map_cons, h1]
    rfl
end
/-- More than 256 pairs of states that one text leads to. -/
def JoMany (A B : DF) : Prop := ∃ T : List (List Nat), T.length = 257 ∧ (∀ t ∈ T, Txt t) ∧ ∀ i, i < 257 → ∀ j, j < 257 → (A.run 0 (T.getD i []), B.run 0 (T.getD i [])) = (A.run 0 (T.getD j []), B.run 0 (T.getD j [])) → i = j
/-- Then no automaton of 256 states tells both labels. -/
theorem JoMany.no {A B : DF} (h : JoMany A B) (hA : A.Right) (hB : B.Right) (E : DF) (hE : E.Ok) (hl : ∀ t u, Txt t → Txt u → E.lab 0 t = E.lab 0 u → A.lab 0 t = A.lab 0 u ∧ B.lab 0 t = B.lab 0 u) : 257 ≤ E.n := by
  obtain ⟨T, h1, h2, h3⟩ := h
  have ht : ∀ i, i < 257 → Txt (T.getD i []) := fun i hi => by
    have hi' : i < T.length := by omega
    have e : T.getD i [] = T[i] := by simp [List.getD_eq_getElem?_getD, hi']
    rw [e]
    exact h2 _ (List.getElem_mem hi')
  refine pigeon E.n 257 (fun i => E.run 0 (T.getD i [])) (fun i hi => hE.run hE.n0 (ht i hi)) (fun i hi j hj e => h3 i hi j hj ?_)
  have key : ∀ u, Txt u → A.lab 0 (T.getD i [] ++ u) = A.lab 0 (T.getD j [] ++ u) ∧ B.lab 0 (T.getD i [] ++ u) = B.lab 0 (T.getD j [] ++ u) := fun u hu => by
    refine hl _ _ ((ht i hi).app hu) ((ht j hj).app hu) ?_
    unfold DF.lab
    rw [DF.run_app, DF.run_app]
    have e : E.run 0 (T.getD i []) = E.run 0 (T.getD j []) := e
    rw [e]
  have eA : A.run 0 (T.getD i []) = A.run 0 (T.getD j []) := hA.dist _ (hA.toOk.run hA.n0 (ht i hi)) _ (hA.toOk.run hA.n0 (ht j hj)) (fun u hu => by
    have := (key u hu).1
    unfold DF.lab at this ⊢
    rw [DF.run_app, DF.run_app] at this
    exact this)
  have eB : B.run 0 (T.getD i []) = B.run 0 (T.getD j []) := hB.dist _ (hB.toOk.run hB.n0 (ht i hi)) _ (hB.toOk.run hB.n0 (ht j hj)) (fun u hu => by
    have := (key u hu).2
    unfold DF.lab at this ⊢
    rw [DF.run_app, DF.run_app] at this
    exact this)
  rw [eA, eB]
/-- What the places of pairs of labels are. -/
def joO (P : List Spn) (Ls : List Spn) : List Nat := Ls.map fun p => P.findIdx (· == p)
theorem joO_len (P Ls : List Spn) : (joO P Ls).length = Ls.length := by simp [joO]
section
variable {bsA bsB : By} {NA OA NB OB : List Nat} {num fst : List Nat} {lit : Nat → Lit} {base : Nat} {v1 v2 : Value} {w : World} {St : List (Nat × Nat)} {NX OU : List Nat}
theorem jo_run (hd : NmDone base lit 256 v1 v2 num fst w) (hlit : ∀ b c, b < 256 → c < 256 → lit b = lit c → (dfA bsA NA OA).bc b = (dfA bsA NA OA).bc c ∧ (dfA bsB NB OB).bc b = (dfA bsB NB OB).bc c) (hE : ExD (0, 0) (joC (dfA bsA NA OA) (dfA bsB NB OB) fst) fst.length St NX) (ho : OU.length = St.length) {t : List Nat} (ht : Txt t) : (dfA (btOf num) NX OU).run 0 t < St.length ∧ gS (0, 0) St ((dfA (btOf num) NX OU).run 0 t) = ((dfA bsA NA OA).run 0 t, (dfA bsB NB OB).run 0 t) := by
  have h0 := (hd.nf.zero (by decide)).2
  obtain ⟨h1, h2⟩ := hE.run (bs := btOf num) (OU := OU) h0 ho (fun b hb => by rw [(of_cols hd hb).1]; exact (of_cols hd hb).2) hE.s0.1 ht
  refine ⟨h1, ?_⟩
  rw [h2, hE.s0.2, joC_run hd hlit t _ ht]
theorem jo_may (hd : NmDone base lit 256 v1 v2 num fst w) (hE : ExD (0, 0) (joC (dfA bsA NA OA) (dfA bsB NB OB) fst) fst.length St NX) (hS : St.length ≤ 256) (ho : OU.length = St.length) (hlb : ∀ x ∈ OU, x ≤ 65535) : MayA (btOf num) NX OU := by
  have h0 := (hd.nf.zero (by decide)).2
  exact hE.may h0 hd.few ho (by omega) (by unfold btOf; rw [List.length_map, hd.len]) (fun b hb => by rw [(of_cols hd hb).1]; exact (of_cols hd hb).2) hlb
theorem jo_many (hd : NmDone base lit 256 v1 v2 num fst w) (h : ExMany ((0, 0) : Nat × Nat) (joC (dfA bsA NA OA) (dfA bsB NB OB) fst) fst.length) : JoMany (dfA bsA NA OA) (dfA bsB NB OB) := by
  obtain ⟨S, h1, h2, h3⟩ := h
  have hx : ∀ a, ∃ t : List Nat, a < 257 → Txt t ∧ gS (0, 0) S a = ((dfA bsA NA OA).run 0 t, (dfA bsB NB OB).run 0 t) := fun a => by
    by_cases ha : a < 257
    · obtain ⟨u, k1, k2⟩ := h3 a (by omega)
      obtain ⟨e1, e2⟩ := joC_cols (A := dfA bsA NA OA) (B := dfA bsB NB OB) hd u (0, 0) k1
      exact ⟨u.map (gN fst), fun _ => ⟨e2, by rw [← k2, e1]⟩⟩
    · exact ⟨[], fun h => absurd h ha⟩
  obtain ⟨f, hf⟩ : ∃ f : Nat → List Nat, ∀ a, a < 257 → Txt (f a) ∧ gS (0, 0) S a = ((dfA bsA NA OA).run 0 (f a), (dfA bsB NB OB).run 0 (f a)) := ⟨fun a => (hx a).choose, fun a => (hx a).choose_spec⟩
  refine ⟨(List.range 257).map f, by simp, fun t ht => ?_, fun i hi j hj e => ?_⟩
  · obtain ⟨a, ha, rfl⟩ := List.mem_map.1 ht
    exact (hf a (List.mem_range.1 ha)).1
  · have gi : ((List.range 257).map f).getD i [] = f i := by simp [List.getD_eq_getElem?_getD, hi]
    have gj : ((List.range 257).map f).getD j [] = f j := by simp [List.getD_eq_getElem?_getD, hj]
    rw [gi, gj, ← (hf i hi).2, ← (hf j hj).2] at e
    exact h2 i (by omega) j (by omega) e
end
end Go.Proofs.YtdgoilkgplnhfaaGreat
/-
  Places among pairs of labels, and what an automaton of pairs then tells. Of no program: the conditions are named.
-/
namespace Go.Proofs.YtdgoilkgplnhfaaGreat
open Go.RowKit Go.Lib Go.Maps

theorem plt_inj {P : List Spn} (h : P.Pairwise PLt) {i j : Nat} (hi : i < P.length) (hj : j < P.length) (e : gQ P i = gQ P j) : i = j := by
  rw [gQ_lt hi, gQ_lt hj] at e
  have hp := List.pairwise_iff_getElem.1 h
  have irr : ∀ s : Spn, ¬ PLt s s := fun s hs => by unfold PLt at hs; omega
  rcases Nat.lt_trichotomy i j with h1 | h1 | h1
  · have := hp i j hi hj h1
    rw [e] at this
    exact absurd this (irr _)
  · exact h1
  · have := hp j i hj hi h1
    rw [e] at this
    exact absurd this (irr _)
theorem RoS.le {L P : List Spn} (h : RoS L P) : P.length ≤ L.length := by
  have hx : ∀ i, ∃ j, i < P.length → j < L.length ∧ gQ L j = gQ P i := fun i => by
    by_cases hi : i < P.length
    · have := (h.mem (gQ P i)).1 (by rw [gQ_lt hi]; exact List.getElem_mem hi)
      obtain ⟨j, hj, e⟩ := List.getElem_of_mem this
      exact ⟨j, fun _ => ⟨hj, by rw [gQ_lt hj, e]⟩⟩
    · exact ⟨0, fun h => absurd h hi⟩
  obtain ⟨f, hf⟩ : ∃ f : Nat → Nat, ∀ i, i < P.length → f i < L.length ∧ gQ L (f i) = gQ P i := ⟨fun i => (hx i).choose, fun i => (hx i).choose_spec⟩
  exact pigeon L.length P.length f (fun i hi => (hf i hi).1) (fun i hi j hj e => plt_inj h.up hi hj (by rw [← (hf i hi).2, ← (hf j hj).2, e]))
theorem lpL_get {OA OB : List Nat} {St : List (Nat × Nat)} {z : Nat × Nat} {i : Nat} (h : i < St.length) : gQ (lpL OA OB St) i = (((gN OA (gS z St i).1 : Nat) : Int), ((gN OB (gS z St i).2 : Nat) : Int)) := by
  rw [gQ_lt (by rw [lpL_len]; exact h), gS_lt h]
  simp [lpL]
/-- Some places among pairs. -/
def Plc (P L : List Spn) (O : List Nat) (i : Nat) : Prop := O.length = i ∧ ∀ j, j < i → gN O j < P.length ∧ gQ P (gN O j) = gQ L j
theorem Plc.next {P L : List Spn} {O : List Nat} {i x : Nat} (h : Plc P L O i) (h1 : x < P.length) (h2 : gQ P x = gQ L i) : Plc P L (O ++ [x]) (i + 1) := by
  have hl := h.1
  refine ⟨by simp; exact hl, fun j hj => ?_⟩
  by_cases e : j = i
  · have : gN (O ++ [x]) j = x := by rw [gN_lt (by simp; omega)]; subst e; simp [← hl]
    rw [this, e]; exact ⟨h1, h2⟩
  · have : gN (O ++ [x]) j = gN O j := by rw [gN_lt (by simp; omega), gN_lt (by omega)]; rw [List.getElem_append_left]
    rw [this]; exact h.2 j (by omega)
theorem plc_set {O : List Nat} {i n x : Nat} (h : O.length = i) (hi : i < n) : (O ++ List.replicate (n - i) 0).set i x = (O ++ [x]) ++ List.replicate (n - (i + 1)) 0 := by
  rw [List.set_append_right _ _ (by omega), List.append_assoc]
  congr 1
  obtain ⟨q, hq⟩ : ∃ q, n - i = q + 1 := ⟨n - i - 1, by omega⟩
  rw [hq, show n - (i + 1) = q by omega, show i - O.length = 0 by omega]
  rfl
section
variable {bsA bsB : By} {NA OA NB OB : List Nat} {num fst : List Nat} {lit : Nat → Lit} {base : Nat} {v1 v2 : Value} {w : World} {St : List (Nat × Nat)} {NX OU : List Nat} {P : List Spn}
theorem jo_pairs (hd : NmDone base lit 256 v1 v2 num fst w) (hE : ExD (0, 0) (joC (dfA bsA NA OA) (dfA bsB NB OB) fst) fst.length St NX) (hr : RoS (lpL OA OB St) P) : ∀ x ∈ P, ∃ t, Txt t ∧ x = ((dfA bsA NA OA).lab 0 t, (dfA bsB NB OB).lab 0 t) := fun x hx => by
  have := (hr.mem x).1 hx
  obtain ⟨a, ha, e⟩ := List.getElem_of_mem this
  rw [lpL_len] at ha
  rw [← gQ_lt (by rw [lpL_len]; exact ha), lpL_get (z := (0, 0)) ha] at e
  obtain ⟨u, h1, h2⟩ := hE.rch a ha
  obtain ⟨e1, e2⟩ := joC_cols (A := dfA bsA NA OA) (B := dfA bsB NB OB) hd u (0, 0) h1
  rw [h2] at e1
  refine ⟨u.map (gN fst), e2, ?_⟩
  rw [← e, e1]
  rfl
theorem jo_lab (hd : NmDone base lit 256 v1 v2 num fst w) (hlit : ∀ b c, b < 256 → c < 256 → lit b = lit c → (dfA bsA NA OA).bc b = (dfA bsA NA OA).bc c ∧ (dfA bsB NB OB).bc b = (dfA bsB NB OB).bc c) (hE : ExD (0, 0) (joC (dfA bsA NA OA) (dfA bsB NB OB) fst) fst.length St NX) (ho : Plc P (lpL OA OB St) OU St.length) {t : List Nat} (ht : Txt t) : ∃ i : Nat, (dfA (btOf num) NX OU).lab 0 t = (i : Int) ∧ i < P.length ∧ gQ P i = ((dfA bsA NA OA).lab 0 t, (dfA bsB NB OB).lab 0 t) := by
  obtain ⟨h1, h2⟩ := jo_run hd hlit hE ho.1 ht
  obtain ⟨h3, h4⟩ := ho.2 _ h1
  refine ⟨_, rfl, h3, ?_⟩
  rw [h4, lpL_get (z := (0, 0)) h1, h2]
  rfl
theorem Plc.lb (ho : Plc P (lpL OA OB St) OU St.length) (hP : P.length ≤ 65536) : ∀ x ∈ OU, x ≤ 65535 := fun x hx => by
  obtain ⟨i, hi, rfl⟩ := List.getElem_of_mem hx
  have := (ho.2 i (by rw [← ho.1]; exact hi)).1
  rw [gN_lt hi] at this
  omega
end
end Go.Proofs.YtdgoilkgplnhfaaGreat
